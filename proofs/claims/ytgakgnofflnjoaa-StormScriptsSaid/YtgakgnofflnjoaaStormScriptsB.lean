/-
  StormScripts: what is refused.
-/
import Derived.Test.YtgakgnofflnjoaaRows
import Derived.Test.YtgakgnofflnjoaaKit
import Derived.Test.YtgakgnofflnjoaaApp
import Derived.Test.YtgakgnofflnjoaaQuiet
import Derived.Test.YtgakgnofflnjoaaRules
import Derived.Test.YtgakgnofflnjoaaCheck
import Derived.Test.YtgakgnofflnjoaaChk2
import Derived.Test.YtgakgnofflnjoaaSt
import Derived.Test.YtgakgnofflnjoaaStA
import Derived.Test.YtgakgnofflnjoaaStT
import Derived.Test.YtgakgnofflnjoaaStK
import Derived.Test.YtgakgnofflnjoaaStR
import Derived.Test.YtgakgnofflnjoaaStL
import Derived.Test.YtgakgnofflnjoaaStM
import Derived.Test.YtgakgnofflnjoaaStS
import Derived.Test.YtgakgnofflnjoaaStV
import Derived.Test.YtgakgnofflnjoaaStD
import Derived.Test.YtgakgnofflnjoaaSxP
import Derived.Test.YtgakgnofflnjoaaSxA
import Derived.Test.YtgakgnofflnjoaaSxB
import Derived.WalkKit
import Derived.ProofKit
import Derived.OpenShut
import Derived.ShutString
import Derived.Below
import Derived.Outline
import Derived.WalkLawsBesides
import Derived.WalkSpells
import Derived.Handy
import Derived.Deep.QuietTactic
import Derived.BigQuiet
import Derived.RegionTactic
import Derived.ChangeAlike
import Derived.Lib.Hide
import Derived.Laws.Rows
import Derived.Laws.Tables
import Derived.Laws.CopyOwn
import Derived.Laws.MakeOwn
import Derived.Laws.Entries
import Derived.Laws.OwnMore
import Derived.Deep.WholeRow
import Derived.Deep.LoopGhost
import Derived.Deep.AppendLies
import Derived.Deep.Draws
import Derived.Maps.AppendAt
import Derived.OwnWalk
import Derived.Deep.RegionHeld3
import Derived.Deep.Cut
import Derived.Deep.CutRange
import Derived.Deep.DeepCutAuto
import Derived.Deep.CutBlock
import Derived.Lib.SliceRun
import Derived.IntWalk
namespace Go.Proofs.Ytgakgnofflnjoaa.stormScripts
open Go.ChangeShapes Go.WideShapes Go.ChangeAt Go.RowKit
set_option maxRecDepth 100000 in
set_option maxHeartbeats 4000000 in
theorem bad (p c n b r f g seed ma mt md ms mp mw most : Int) (w : World) (h : ¬ ((1 ≤ p ∧ p ≤ 6) ∧ (1 ≤ c ∧ c ≤ 4) ∧ (1 ≤ n ∧ n ≤ 3) ∧ (1 ≤ b ∧ b ≤ 4) ∧ (0 ≤ r ∧ r ≤ 4) ∧ (1 ≤ f ∧ f ≤ 4) ∧ (1 ≤ g ∧ g ≤ 15))) :
    Calls Try.prog 3 #[.agg #[.int .i64 p, .int .i64 c, .int .i64 n, .int .i64 b, .int .i64 r, .int .i64 f, .int .i64 g], .int .u64 seed, .agg #[.int .i64 ma, .int .i64 mt, .int .i64 md, .int .i64 ms, .int .i64 mp, .int .i64 mw], .int .i64 most] w fun e w' => e = .returned (.bool true) ∧ Below w.heap.size w w' := by
  have HN := Lib.hid (fun W => rnew_bad p c n b r f g W h)
  obtain ⟨i, hCK⟩ := check_bad2 p c n b r f g h
  have HCK := Lib.hid hCK
  have i0 : (0 : Int) ≤ (i : Int) := by omega
  have hid' : decide ((i : Int) < 0) = false := decide_eq_false (by omega)
  clear hCK h
  have bx00 := Blk7.new w p c n b r f g 23
  have bx0 := bx00.below (show Below _ _ ((w.alloc (.cells #[.int .i64 p, .int .i64 c, .int .i64 n, .int .i64 b, .int .i64 r, .int .i64 f, .int .i64 g] 23)).alloc (.cells #[.int .i64 ma, .int .i64 mt, .int .i64 md, .int .i64 ms, .int .i64 mp, .int .i64 mw] 26)) from by go_grown)
  clear bx00
  go_enter Try.func3, Try.ntmps3
  go_wp2_with fail
  refine (HN.out _).mono ?_
  rintro e w1 ⟨T, v, rfl, hb1⟩
  have bx1 := bx0.below hb1
  have hB1 : Below w.heap.size w w1 := Below.step (by go_grown) hb1
  have mm := (hb1.cell (p := ⟨w.heap.size + 1, 0, none⟩) (by simp)).trans (show ((w.alloc (.cells #[.int .i64 p, .int .i64 c, .int .i64 n, .int .i64 b, .int .i64 r, .int .i64 f, .int .i64 g] 23)).alloc (.cells #[.int .i64 ma, .int .i64 mt, .int .i64 md, .int .i64 ms, .int .i64 mp, .int .i64 mw] 26)).cell? ⟨w.heap.size + 1, 0, none⟩ = some (.int .i64 ma) from by simp [go_sem])
  have mo0 := (hb1.cell (p := ⟨w.heap.size + 1, 0, none⟩) (by simp)).trans (show ((w.alloc (.cells #[.int .i64 p, .int .i64 c, .int .i64 n, .int .i64 b, .int .i64 r, .int .i64 f, .int .i64 g] 23)).alloc (.cells #[.int .i64 ma, .int .i64 mt, .int .i64 md, .int .i64 ms, .int .i64 mp, .int .i64 mw] 26)).cell? ⟨w.heap.size + 1, 0, none⟩ = some (.int .i64 ma) from by simp [go_sem])
  have mo1 := (hb1.cell (p := ⟨w.heap.size + 1, 1, none⟩) (by simp)).trans (show ((w.alloc (.cells #[.int .i64 p, .int .i64 c, .int .i64 n, .int .i64 b, .int .i64 r, .int .i64 f, .int .i64 g] 23)).alloc (.cells #[.int .i64 ma, .int .i64 mt, .int .i64 md, .int .i64 ms, .int .i64 mp, .int .i64 mw] 26)).cell? ⟨w.heap.size + 1, 1, none⟩ = some (.int .i64 mt) from by simp [go_sem])
  have mo2 := (hb1.cell (p := ⟨w.heap.size + 1, 2, none⟩) (by simp)).trans (show ((w.alloc (.cells #[.int .i64 p, .int .i64 c, .int .i64 n, .int .i64 b, .int .i64 r, .int .i64 f, .int .i64 g] 23)).alloc (.cells #[.int .i64 ma, .int .i64 mt, .int .i64 md, .int .i64 ms, .int .i64 mp, .int .i64 mw] 26)).cell? ⟨w.heap.size + 1, 2, none⟩ = some (.int .i64 md) from by simp [go_sem])
  have mo3 := (hb1.cell (p := ⟨w.heap.size + 1, 3, none⟩) (by simp)).trans (show ((w.alloc (.cells #[.int .i64 p, .int .i64 c, .int .i64 n, .int .i64 b, .int .i64 r, .int .i64 f, .int .i64 g] 23)).alloc (.cells #[.int .i64 ma, .int .i64 mt, .int .i64 md, .int .i64 ms, .int .i64 mp, .int .i64 mw] 26)).cell? ⟨w.heap.size + 1, 3, none⟩ = some (.int .i64 ms) from by simp [go_sem])
  have mo4 := (hb1.cell (p := ⟨w.heap.size + 1, 4, none⟩) (by simp)).trans (show ((w.alloc (.cells #[.int .i64 p, .int .i64 c, .int .i64 n, .int .i64 b, .int .i64 r, .int .i64 f, .int .i64 g] 23)).alloc (.cells #[.int .i64 ma, .int .i64 mt, .int .i64 md, .int .i64 ms, .int .i64 mp, .int .i64 mw] 26)).cell? ⟨w.heap.size + 1, 4, none⟩ = some (.int .i64 mp) from by simp [go_sem])
  have mo5 := (hb1.cell (p := ⟨w.heap.size + 1, 5, none⟩) (by simp)).trans (show ((w.alloc (.cells #[.int .i64 p, .int .i64 c, .int .i64 n, .int .i64 b, .int .i64 r, .int .i64 f, .int .i64 g] 23)).alloc (.cells #[.int .i64 ma, .int .i64 mt, .int .i64 md, .int .i64 ms, .int .i64 mp, .int .i64 mw] 26)).cell? ⟨w.heap.size + 1, 5, none⟩ = some (.int .i64 mw) from by simp [go_sem])
  have hml : w.heap.size + 1 < w1.heap.size := Nat.lt_of_lt_of_le (by simp) hb1.size
  clear hb1 bx0 mm
  have hB1a := hB1.alloc hB1.size (.cells #[.int .i64 0, .int .i64 0, .int .i64 0, .int .i64 0, .int .i64 0, .int .i64 0, .int .i64 0] 28)
  have hD1 : Below w1.heap.size w1 (w1.alloc (.cells #[.int .i64 0, .int .i64 0, .int .i64 0, .int .i64 0, .int .i64 0, .int .i64 0, .int .i64 0] 28)) := by go_grown
  have bC1 := bx1.below hD1
  obtain ⟨⟨c0, c1, c2, c3, c4, c5, c6⟩, hl⟩ := bx1
  go_wp2_with fail
  refine (HCK.out _).mono ?_
  rintro e w2 ⟨rfl, hb2⟩
  have hB2 : Below w.heap.size w w2 := Below.step hB1a hb2
  have bC := bC1.below hb2
  have mn0 := ((Below.step hD1 hb2).cell (p := ⟨w.heap.size + 1, 0, none⟩) hml).trans mo0
  have mn1 := ((Below.step hD1 hb2).cell (p := ⟨w.heap.size + 1, 1, none⟩) hml).trans mo1
  have mn2 := ((Below.step hD1 hb2).cell (p := ⟨w.heap.size + 1, 2, none⟩) hml).trans mo2
  have mn3 := ((Below.step hD1 hb2).cell (p := ⟨w.heap.size + 1, 3, none⟩) hml).trans mo3
  have mn4 := ((Below.step hD1 hb2).cell (p := ⟨w.heap.size + 1, 4, none⟩) hml).trans mo4
  have mn5 := ((Below.step hD1 hb2).cell (p := ⟨w.heap.size + 1, 5, none⟩) hml).trans mo5
  clear hb2 bC1 c0 c1 c2 c3 c4 c5 c6 hl hD1 mo0 mo1 mo2 mo3 mo4 mo5
  clear mn0 mn1 mn2 mn3 mn4 mn5
  go_wp2_with fail
  refine region_sc (by kernel_rfl) (by kernel_rfl) ?_
  go_big_quiet_want
  go_big_quiet_op
  refine ⟨.bool true, fun wq hq => Sc.call awake38 hq, ?_⟩
  go_big_quiet_on
  iterate 3 (first | go_big_quiet_skip | (go_big_quiet_want; go_big_quiet_op; first | go_big_quiet_on | (refine ⟨_, fun _ _ => rfl, ?_⟩; go_big_quiet_on)))
  go_big_quiet_want
  refine ⟨.agg #[.int .i64 p, .int .i64 c, .int .i64 n, .int .i64 b, .int .i64 r, .int .i64 f, .int .i64 g], fun wq hq => ?_, ?_⟩
  · obtain ⟨⟨q0, q1, q2, q3, q4, q5, q6⟩, _⟩ := bC.below hq
    unfold Oper.quietAt
    simp [go_sem, q0, q1, q2, q3, q4, q5, q6, Oper.quietUpon]
  simp only [Act.put, List.setIfInBounds_toArray, List.set_cons_zero, List.set_cons_succ]
  go_big_quiet_on
  go_big_quiet_want
  go_big_quiet_op
  refine ⟨.int .i64 (i : Int), fun wq hq => Sc.call HCK.out hq, ?_⟩
  go_big_quiet_on
  iterate 4 (first | go_big_quiet_skip | (go_big_quiet_want; go_big_quiet_op; first | go_big_quiet_on | (refine ⟨_, fun _ _ => rfl, ?_⟩; go_big_quiet_on)))
  refine wpQuiet_nil ?_
  intro w4 hS4
  go_wp2_with fail
  go_ret
  exact ⟨rfl, Below.step hB2 hS4⟩
set_option maxRecDepth 100000 in
set_option maxHeartbeats 4000000 in
theorem r1 (p c n b r f g seed ma mt md ms mp mw most : Int) (w : World) (hp : 1 ≤ p ∧ p ≤ 6) (hc : 1 ≤ c ∧ c ≤ 4) (hn : 1 ≤ n ∧ n ≤ 3) (hb : 1 ≤ b ∧ b ≤ 4) (hr : 0 ≤ r ∧ r ≤ 4) (hf : 1 ≤ f ∧ f ≤ 4) (hg : 1 ≤ g ∧ g ≤ 15) (hF : ∀ W, Calls Try.prog 7 #[.agg #[.int .i64 ma, .int .i64 mt, .int .i64 md, .int .i64 ms, .int .i64 mp, .int .i64 mw]] W fun e w' => e = .returned (.bool false) ∧ Below W.heap.size W w') :
    Calls Try.prog 3 #[.agg #[.int .i64 p, .int .i64 c, .int .i64 n, .int .i64 b, .int .i64 r, .int .i64 f, .int .i64 g], .int .u64 seed, .agg #[.int .i64 ma, .int .i64 mt, .int .i64 md, .int .i64 ms, .int .i64 mp, .int .i64 mw], .int .i64 most] w fun e w' => e = .returned (.bool true) ∧ Below w.heap.size w w' := by
  have HN := Lib.hid (fun W => rnew_ok p c n b r f g W hp hc hn hb hr hf hg)
  have HCK := Lib.hid (fun W => check_ok p c n b r f g W hp hc hn hb hr hf hg)
  clear hp hc hn hb hr hf hg
  have HF := Lib.hid hF
  clear hF
  have bx00 := Blk7.new w p c n b r f g 23
  have bx0 := bx00.below (show Below _ _ ((w.alloc (.cells #[.int .i64 p, .int .i64 c, .int .i64 n, .int .i64 b, .int .i64 r, .int .i64 f, .int .i64 g] 23)).alloc (.cells #[.int .i64 ma, .int .i64 mt, .int .i64 md, .int .i64 ms, .int .i64 mp, .int .i64 mw] 26)) from by go_grown)
  clear bx00
  go_enter Try.func3, Try.ntmps3
  go_wp2_with fail
  refine (HN.out _).mono ?_
  rintro e w1 ⟨rfl, hb1⟩
  have bx1 := bx0.below hb1
  have hB1 : Below w.heap.size w w1 := Below.step (by go_grown) hb1
  have mm := (hb1.cell (p := ⟨w.heap.size + 1, 0, none⟩) (by simp)).trans (show ((w.alloc (.cells #[.int .i64 p, .int .i64 c, .int .i64 n, .int .i64 b, .int .i64 r, .int .i64 f, .int .i64 g] 23)).alloc (.cells #[.int .i64 ma, .int .i64 mt, .int .i64 md, .int .i64 ms, .int .i64 mp, .int .i64 mw] 26)).cell? ⟨w.heap.size + 1, 0, none⟩ = some (.int .i64 ma) from by simp [go_sem])
  have mo0 := (hb1.cell (p := ⟨w.heap.size + 1, 0, none⟩) (by simp)).trans (show ((w.alloc (.cells #[.int .i64 p, .int .i64 c, .int .i64 n, .int .i64 b, .int .i64 r, .int .i64 f, .int .i64 g] 23)).alloc (.cells #[.int .i64 ma, .int .i64 mt, .int .i64 md, .int .i64 ms, .int .i64 mp, .int .i64 mw] 26)).cell? ⟨w.heap.size + 1, 0, none⟩ = some (.int .i64 ma) from by simp [go_sem])
  have mo1 := (hb1.cell (p := ⟨w.heap.size + 1, 1, none⟩) (by simp)).trans (show ((w.alloc (.cells #[.int .i64 p, .int .i64 c, .int .i64 n, .int .i64 b, .int .i64 r, .int .i64 f, .int .i64 g] 23)).alloc (.cells #[.int .i64 ma, .int .i64 mt, .int .i64 md, .int .i64 ms, .int .i64 mp, .int .i64 mw] 26)).cell? ⟨w.heap.size + 1, 1, none⟩ = some (.int .i64 mt) from by simp [go_sem])
  have mo2 := (hb1.cell (p := ⟨w.heap.size + 1, 2, none⟩) (by simp)).trans (show ((w.alloc (.cells #[.int .i64 p, .int .i64 c, .int .i64 n, .int .i64 b, .int .i64 r, .int .i64 f, .int .i64 g] 23)).alloc (.cells #[.int .i64 ma, .int .i64 mt, .int .i64 md, .int .i64 ms, .int .i64 mp, .int .i64 mw] 26)).cell? ⟨w.heap.size + 1, 2, none⟩ = some (.int .i64 md) from by simp [go_sem])
  have mo3 := (hb1.cell (p := ⟨w.heap.size + 1, 3, none⟩) (by simp)).trans (show ((w.alloc (.cells #[.int .i64 p, .int .i64 c, .int .i64 n, .int .i64 b, .int .i64 r, .int .i64 f, .int .i64 g] 23)).alloc (.cells #[.int .i64 ma, .int .i64 mt, .int .i64 md, .int .i64 ms, .int .i64 mp, .int .i64 mw] 26)).cell? ⟨w.heap.size + 1, 3, none⟩ = some (.int .i64 ms) from by simp [go_sem])
  have mo4 := (hb1.cell (p := ⟨w.heap.size + 1, 4, none⟩) (by simp)).trans (show ((w.alloc (.cells #[.int .i64 p, .int .i64 c, .int .i64 n, .int .i64 b, .int .i64 r, .int .i64 f, .int .i64 g] 23)).alloc (.cells #[.int .i64 ma, .int .i64 mt, .int .i64 md, .int .i64 ms, .int .i64 mp, .int .i64 mw] 26)).cell? ⟨w.heap.size + 1, 4, none⟩ = some (.int .i64 mp) from by simp [go_sem])
  have mo5 := (hb1.cell (p := ⟨w.heap.size + 1, 5, none⟩) (by simp)).trans (show ((w.alloc (.cells #[.int .i64 p, .int .i64 c, .int .i64 n, .int .i64 b, .int .i64 r, .int .i64 f, .int .i64 g] 23)).alloc (.cells #[.int .i64 ma, .int .i64 mt, .int .i64 md, .int .i64 ms, .int .i64 mp, .int .i64 mw] 26)).cell? ⟨w.heap.size + 1, 5, none⟩ = some (.int .i64 mw) from by simp [go_sem])
  have hml : w.heap.size + 1 < w1.heap.size := Nat.lt_of_lt_of_le (by simp) hb1.size
  clear hb1 bx0 mm
  have hB1a := hB1.alloc hB1.size (.cells #[.int .i64 p, .int .i64 c, .int .i64 n, .int .i64 b, .int .i64 r, .int .i64 f, .int .i64 g] 28)
  have hD1 : Below w1.heap.size w1 (w1.alloc (.cells #[.int .i64 p, .int .i64 c, .int .i64 n, .int .i64 b, .int .i64 r, .int .i64 f, .int .i64 g] 28)) := by go_grown
  have bC1 := bx1.below hD1
  obtain ⟨⟨c0, c1, c2, c3, c4, c5, c6⟩, hl⟩ := bx1
  go_wp2_with fail
  refine (HCK.out _).mono ?_
  rintro e w2 ⟨rfl, hb2⟩
  have hB2 : Below w.heap.size w w2 := Below.step hB1a hb2
  have bC := bC1.below hb2
  have mn0 := ((Below.step hD1 hb2).cell (p := ⟨w.heap.size + 1, 0, none⟩) hml).trans mo0
  have mn1 := ((Below.step hD1 hb2).cell (p := ⟨w.heap.size + 1, 1, none⟩) hml).trans mo1
  have mn2 := ((Below.step hD1 hb2).cell (p := ⟨w.heap.size + 1, 2, none⟩) hml).trans mo2
  have mn3 := ((Below.step hD1 hb2).cell (p := ⟨w.heap.size + 1, 3, none⟩) hml).trans mo3
  have mn4 := ((Below.step hD1 hb2).cell (p := ⟨w.heap.size + 1, 4, none⟩) hml).trans mo4
  have mn5 := ((Below.step hD1 hb2).cell (p := ⟨w.heap.size + 1, 5, none⟩) hml).trans mo5
  clear hb2 bC1 c0 c1 c2 c3 c4 c5 c6 hl hD1 mo0 mo1 mo2 mo3 mo4 mo5
  go_wp2_with fail
  refine (HF.out _).mono ?_
  rintro e w3 ⟨rfl, hb3⟩
  have hB3 := Below.step hB2 hb3
  have bC := bC.below hb3
  clear hb3 hB2
  clear mn0 mn1 mn2 mn3 mn4 mn5
  go_wp2_with fail
  refine region_sc (by kernel_rfl) (by kernel_rfl) ?_
  go_big_quiet_want
  go_big_quiet_op
  refine ⟨.bool true, fun wq hq => Sc.call awake38 hq, ?_⟩
  go_big_quiet_on
  iterate 3 (first | go_big_quiet_skip | (go_big_quiet_want; go_big_quiet_op; first | go_big_quiet_on | (refine ⟨_, fun _ _ => rfl, ?_⟩; go_big_quiet_on)))
  go_big_quiet_want
  refine ⟨.agg #[.int .i64 p, .int .i64 c, .int .i64 n, .int .i64 b, .int .i64 r, .int .i64 f, .int .i64 g], fun wq hq => ?_, ?_⟩
  · obtain ⟨⟨q0, q1, q2, q3, q4, q5, q6⟩, _⟩ := bC.below hq
    unfold Oper.quietAt
    simp [go_sem, q0, q1, q2, q3, q4, q5, q6, Oper.quietUpon]
  simp only [Act.put, List.setIfInBounds_toArray, List.set_cons_zero, List.set_cons_succ]
  go_big_quiet_on
  go_big_quiet_want
  go_big_quiet_op
  refine ⟨.int .i64 (-1), fun wq hq => Sc.call HCK.out hq, ?_⟩
  go_big_quiet_on
  iterate 4 (first | go_big_quiet_skip | (go_big_quiet_want; go_big_quiet_op; first | go_big_quiet_on | (refine ⟨_, fun _ _ => rfl, ?_⟩; go_big_quiet_on)))
  refine wpQuiet_nil ?_
  intro w4 hS4
  go_wp2_with fail
  go_ret
  exact ⟨rfl, Below.step hB3 hS4⟩
set_option maxRecDepth 100000 in
set_option maxHeartbeats 4000000 in
theorem r3 (p c n b r f g seed ma mt md ms mp mw most : Int) (w : World) (hp : 1 ≤ p ∧ p ≤ 6) (hc : 1 ≤ c ∧ c ≤ 4) (hn : 1 ≤ n ∧ n ≤ 3) (hb : 1 ≤ b ∧ b ≤ 4) (hr : 0 ≤ r ∧ r ≤ 4) (hf : 1 ≤ f ∧ f ≤ 4) (hg : 1 ≤ g ∧ g ≤ 15) (hF : ∀ W, Calls Try.prog 7 #[.agg #[.int .i64 ma, .int .i64 mt, .int .i64 md, .int .i64 ms, .int .i64 mp, .int .i64 mw]] W fun e w' => e = .returned (.bool true) ∧ Below W.heap.size W w') (h : 2000 < most) :
    Calls Try.prog 3 #[.agg #[.int .i64 p, .int .i64 c, .int .i64 n, .int .i64 b, .int .i64 r, .int .i64 f, .int .i64 g], .int .u64 seed, .agg #[.int .i64 ma, .int .i64 mt, .int .i64 md, .int .i64 ms, .int .i64 mp, .int .i64 mw], .int .i64 most] w fun e w' => e = .returned (.bool true) ∧ Below w.heap.size w w' := by
  have HN := Lib.hid (fun W => rnew_ok p c n b r f g W hp hc hn hb hr hf hg)
  have HCK := Lib.hid (fun W => check_ok p c n b r f g W hp hc hn hb hr hf hg)
  clear hp hc hn hb hr hf hg
  have HF := Lib.hid hF
  clear hF
  have bx00 := Blk7.new w p c n b r f g 23
  have bx0 := bx00.below (show Below _ _ ((w.alloc (.cells #[.int .i64 p, .int .i64 c, .int .i64 n, .int .i64 b, .int .i64 r, .int .i64 f, .int .i64 g] 23)).alloc (.cells #[.int .i64 ma, .int .i64 mt, .int .i64 md, .int .i64 ms, .int .i64 mp, .int .i64 mw] 26)) from by go_grown)
  clear bx00
  go_enter Try.func3, Try.ntmps3
  go_wp2_with fail
  refine (HN.out _).mono ?_
  rintro e w1 ⟨rfl, hb1⟩
  have bx1 := bx0.below hb1
  have hB1 : Below w.heap.size w w1 := Below.step (by go_grown) hb1
  have mm := (hb1.cell (p := ⟨w.heap.size + 1, 0, none⟩) (by simp)).trans (show ((w.alloc (.cells #[.int .i64 p, .int .i64 c, .int .i64 n, .int .i64 b, .int .i64 r, .int .i64 f, .int .i64 g] 23)).alloc (.cells #[.int .i64 ma, .int .i64 mt, .int .i64 md, .int .i64 ms, .int .i64 mp, .int .i64 mw] 26)).cell? ⟨w.heap.size + 1, 0, none⟩ = some (.int .i64 ma) from by simp [go_sem])
  have mo0 := (hb1.cell (p := ⟨w.heap.size + 1, 0, none⟩) (by simp)).trans (show ((w.alloc (.cells #[.int .i64 p, .int .i64 c, .int .i64 n, .int .i64 b, .int .i64 r, .int .i64 f, .int .i64 g] 23)).alloc (.cells #[.int .i64 ma, .int .i64 mt, .int .i64 md, .int .i64 ms, .int .i64 mp, .int .i64 mw] 26)).cell? ⟨w.heap.size + 1, 0, none⟩ = some (.int .i64 ma) from by simp [go_sem])
  have mo1 := (hb1.cell (p := ⟨w.heap.size + 1, 1, none⟩) (by simp)).trans (show ((w.alloc (.cells #[.int .i64 p, .int .i64 c, .int .i64 n, .int .i64 b, .int .i64 r, .int .i64 f, .int .i64 g] 23)).alloc (.cells #[.int .i64 ma, .int .i64 mt, .int .i64 md, .int .i64 ms, .int .i64 mp, .int .i64 mw] 26)).cell? ⟨w.heap.size + 1, 1, none⟩ = some (.int .i64 mt) from by simp [go_sem])
  have mo2 := (hb1.cell (p := ⟨w.heap.size + 1, 2, none⟩) (by simp)).trans (show ((w.alloc (.cells #[.int .i64 p, .int .i64 c, .int .i64 n, .int .i64 b, .int .i64 r, .int .i64 f, .int .i64 g] 23)).alloc (.cells #[.int .i64 ma, .int .i64 mt, .int .i64 md, .int .i64 ms, .int .i64 mp, .int .i64 mw] 26)).cell? ⟨w.heap.size + 1, 2, none⟩ = some (.int .i64 md) from by simp [go_sem])
  have mo3 := (hb1.cell (p := ⟨w.heap.size + 1, 3, none⟩) (by simp)).trans (show ((w.alloc (.cells #[.int .i64 p, .int .i64 c, .int .i64 n, .int .i64 b, .int .i64 r, .int .i64 f, .int .i64 g] 23)).alloc (.cells #[.int .i64 ma, .int .i64 mt, .int .i64 md, .int .i64 ms, .int .i64 mp, .int .i64 mw] 26)).cell? ⟨w.heap.size + 1, 3, none⟩ = some (.int .i64 ms) from by simp [go_sem])
  have mo4 := (hb1.cell (p := ⟨w.heap.size + 1, 4, none⟩) (by simp)).trans (show ((w.alloc (.cells #[.int .i64 p, .int .i64 c, .int .i64 n, .int .i64 b, .int .i64 r, .int .i64 f, .int .i64 g] 23)).alloc (.cells #[.int .i64 ma, .int .i64 mt, .int .i64 md, .int .i64 ms, .int .i64 mp, .int .i64 mw] 26)).cell? ⟨w.heap.size + 1, 4, none⟩ = some (.int .i64 mp) from by simp [go_sem])
  have mo5 := (hb1.cell (p := ⟨w.heap.size + 1, 5, none⟩) (by simp)).trans (show ((w.alloc (.cells #[.int .i64 p, .int .i64 c, .int .i64 n, .int .i64 b, .int .i64 r, .int .i64 f, .int .i64 g] 23)).alloc (.cells #[.int .i64 ma, .int .i64 mt, .int .i64 md, .int .i64 ms, .int .i64 mp, .int .i64 mw] 26)).cell? ⟨w.heap.size + 1, 5, none⟩ = some (.int .i64 mw) from by simp [go_sem])
  have hml : w.heap.size + 1 < w1.heap.size := Nat.lt_of_lt_of_le (by simp) hb1.size
  clear hb1 bx0 mm
  have hB1a := hB1.alloc hB1.size (.cells #[.int .i64 p, .int .i64 c, .int .i64 n, .int .i64 b, .int .i64 r, .int .i64 f, .int .i64 g] 28)
  have hD1 : Below w1.heap.size w1 (w1.alloc (.cells #[.int .i64 p, .int .i64 c, .int .i64 n, .int .i64 b, .int .i64 r, .int .i64 f, .int .i64 g] 28)) := by go_grown
  have bC1 := bx1.below hD1
  obtain ⟨⟨c0, c1, c2, c3, c4, c5, c6⟩, hl⟩ := bx1
  go_wp2_with fail
  refine (HCK.out _).mono ?_
  rintro e w2 ⟨rfl, hb2⟩
  have hB2 : Below w.heap.size w w2 := Below.step hB1a hb2
  have bC := bC1.below hb2
  have mn0 := ((Below.step hD1 hb2).cell (p := ⟨w.heap.size + 1, 0, none⟩) hml).trans mo0
  have mn1 := ((Below.step hD1 hb2).cell (p := ⟨w.heap.size + 1, 1, none⟩) hml).trans mo1
  have mn2 := ((Below.step hD1 hb2).cell (p := ⟨w.heap.size + 1, 2, none⟩) hml).trans mo2
  have mn3 := ((Below.step hD1 hb2).cell (p := ⟨w.heap.size + 1, 3, none⟩) hml).trans mo3
  have mn4 := ((Below.step hD1 hb2).cell (p := ⟨w.heap.size + 1, 4, none⟩) hml).trans mo4
  have mn5 := ((Below.step hD1 hb2).cell (p := ⟨w.heap.size + 1, 5, none⟩) hml).trans mo5
  clear hb2 bC1 c0 c1 c2 c3 c4 c5 c6 hl hD1 mo0 mo1 mo2 mo3 mo4 mo5
  go_wp2_with fail
  refine (HF.out _).mono ?_
  rintro e w3 ⟨rfl, hb3⟩
  have hB3 := Below.step hB2 hb3
  have bC := bC.below hb3
  clear hb3 hB2
  clear mn0 mn1 mn2 mn3 mn4 mn5
  go_wp2_with fail
  refine region_sc (by kernel_rfl) (by kernel_rfl) ?_
  go_big_quiet_want
  go_big_quiet_op
  refine ⟨.bool true, fun wq hq => Sc.call awake38 hq, ?_⟩
  go_big_quiet_on
  iterate 3 (first | go_big_quiet_skip | (go_big_quiet_want; go_big_quiet_op; first | go_big_quiet_on | (refine ⟨_, fun _ _ => rfl, ?_⟩; go_big_quiet_on)))
  go_big_quiet_want
  refine ⟨.agg #[.int .i64 p, .int .i64 c, .int .i64 n, .int .i64 b, .int .i64 r, .int .i64 f, .int .i64 g], fun wq hq => ?_, ?_⟩
  · obtain ⟨⟨q0, q1, q2, q3, q4, q5, q6⟩, _⟩ := bC.below hq
    unfold Oper.quietAt
    simp [go_sem, q0, q1, q2, q3, q4, q5, q6, Oper.quietUpon]
  simp only [Act.put, List.setIfInBounds_toArray, List.set_cons_zero, List.set_cons_succ]
  go_big_quiet_on
  go_big_quiet_want
  go_big_quiet_op
  refine ⟨.int .i64 (-1), fun wq hq => Sc.call HCK.out hq, ?_⟩
  go_big_quiet_on
  iterate 4 (first | go_big_quiet_skip | (go_big_quiet_want; go_big_quiet_op; first | go_big_quiet_on | (refine ⟨_, fun _ _ => rfl, ?_⟩; go_big_quiet_on)))
  refine wpQuiet_nil ?_
  intro w4 hS4
  go_wp2_with fail
  go_ret
  exact ⟨rfl, Below.step hB3 hS4⟩
end Go.Proofs.Ytgakgnofflnjoaa.stormScripts

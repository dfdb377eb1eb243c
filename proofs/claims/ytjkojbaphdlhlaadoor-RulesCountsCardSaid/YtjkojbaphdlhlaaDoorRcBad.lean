/-
  The walk of RulesCounts.
-/
import Derived.Test.YtjkojbaphdlhlaaDoorRows
import Derived.Test.YtjkojbaphdlhlaaDoorKit
import Derived.Test.YtjkojbaphdlhlaaDoorApp
import Derived.Test.YtjkojbaphdlhlaaDoorQuiet
import Derived.Test.YtjkojbaphdlhlaaDoorAsF
import Derived.Test.YtjkojbaphdlhlaaDoorAsC
import Derived.Test.YtjkojbaphdlhlaaDoorAsD
import Derived.Test.YtjkojbaphdlhlaaDoorAsE
import Derived.Test.YtjkojbaphdlhlaaDoorAsG
import Derived.Test.YtjkojbaphdlhlaaDoorWraps
import Derived.Test.YtjkojbaphdlhlaaDoorAwake1
import Derived.Test.YtjkojbaphdlhlaaDoorIsC
import Derived.Test.YtjkojbaphdlhlaaDoorRcPl
import Derived.Test.YtjkojbaphdlhlaaDoorRcPlaces
import Derived.Test.YtjkojbaphdlhlaaDoorRcRules
import Derived.Test.YtjkojbaphdlhlaaDoorRcCheck
import Derived.Test.YtjkojbaphdlhlaaDoorRcAts
import Derived.Test.YtjkojbaphdlhlaaDoorRcN
import Derived.Test.YtjkojbaphdlhlaaDoorRcC
import Derived.WalkKit
import Derived.ProofKit
import Derived.OpenShut
import Derived.ShutString
import Derived.Below
import Derived.Outline
import Derived.WalkLawsBesides
import Derived.WalkSpells
import Derived.Handy
import Derived.Deep.QuietTactic
import Derived.BigQuiet
import Derived.RegionTactic
import Derived.ChangeAlike
import Derived.Lib.Hide
import Derived.Laws.Rows
import Derived.Laws.Tables
import Derived.Laws.CopyOwn
import Derived.Laws.MakeOwn
import Derived.Laws.Entries
import Derived.Laws.OwnMore
import Derived.Deep.WholeRow
import Derived.Deep.LoopGhost
import Derived.Deep.AppendLies
import Derived.Deep.Draws
import Derived.Maps.AppendAt
import Derived.OwnWalk
import Derived.Deep.RegionHeld3
import Derived.Deep.Cut
import Derived.Deep.CutRange
import Derived.Deep.DeepCutAuto
import Derived.Deep.CutBlock
import Derived.Lib.SliceRun
import Derived.IntWalk
namespace Go.Proofs.YtjkojbaphdlhlaaDoor.Rc
open Go.ChangeShapes Go.WideShapes Go.ChangeAt Go.RowKit
set_option maxRecDepth 100000 in
set_option maxHeartbeats 8000000 in
theorem bad (p c n b r f g x y i : Int) (s : ByteArray) (w : World) (hg : w.cell? ⟨0, 0, none⟩ = some (.iface 126 (.agg #[.pointer (some ⟨1, 30, none⟩)]))) (hgl : 0 < w.heap.size) (h : Bad p c n b r f g i s) (hi : 0 ≤ i) :
    Calls Tryd.prog 5 #[.agg #[.int .i64 p, .int .i64 c, .int .i64 n, .int .i64 b, .int .i64 r, .int .i64 f, .int .i64 g], .int .i64 x, .int .i64 y] w fun e w' => e = .returned (.bool true) ∧ Below w.heap.size w w' := by
  have HN := Lib.hid (fun W => new_bad p c n b r f g i s W h)
  have HC := Lib.hid (fun W => check_at p c n b r f g i s W h)
  have HW := Lib.hid (fun W => word_at p c n b r f g i s W h)
  have HG0 := Lib.hid hg
  clear h hg
  have bx0 := Blk7.new w p c n b r f g 70
  go_enter Tryd.func5, Tryd.ntmps5
  go_wp2_with fail
  refine (HN.out _).mono ?_
  rintro e w1 ⟨v, rfl, hch, hb1⟩
  obtain ⟨T, X, rfl⟩ := hch.iface
  have bx1 := bx0.below hb1
  have hB1 : Below w.heap.size w w1 := Below.step (by go_grown) hb1
  have HCH1 := Lib.hid hch
  clear hb1 bx0 hch
  obtain ⟨⟨c0, c1, c2, c3, c4, c5, c6⟩, hl⟩ := id bx1
  go_wp2_with fail
  refine (HC.out _).mono ?_
  rintro e w2 ⟨rfl, hb2⟩
  have hbs : Below w1.heap.size w1 w2 := Below.step (by go_grown) hb2
  have hB2 : Below w.heap.size w w2 := Below.step hB1 hbs
  have HCH2 := Lib.hid (HCH1.out.below hbs)
  have HG2 := Lib.hid ((hB2.cell (p := ⟨0, 0, none⟩) hgl).trans HG0.out)
  have hl2 : 0 < w2.heap.size := Nat.lt_of_lt_of_le hgl hB2.size
  clear hb2 hbs c0 c1 c2 c3 c4 c5 c6 hl bx1
  go_wp2_with fail
  refine (place_some i [.pl i, .wo s] 5 (.iface T X) _ HCH2.out HG2.out hl2 rfl).mono ?_
  rintro e w3 ⟨rfl, hb3⟩
  have hB3 : Below w.heap.size w w3 := Below.step hB2 hb3
  have HCH3 := Lib.hid (HCH2.out.below hb3)
  have HG3 := Lib.hid ((hb3.cell (p := ⟨0, 0, none⟩) hl2).trans HG2.out)
  have hl3 : 0 < w3.heap.size := Nat.lt_of_lt_of_le hl2 hb3.size
  clear hb3
  go_wp2_with fail
  refine (words_at [.pl i, .wo s] [s] rfl 5 (.iface T X) _ HCH3.out HG3.out hl3 (by simp)).mono ?_
  rintro e w4 ⟨A, cp, rfl, hA, hb4⟩
  obtain ⟨B, rfl, hlB, hcB⟩ := hA s [] rfl
  have hB4 : Below w.heap.size w w4 := Below.step hB3 hb4
  have HCH4 := Lib.hid (HCH3.out.below hb4)
  have HCB := Lib.hid hcB
  clear hb4 hA hcB
  have hi2 : (i == i) = true := by simp
  have hcp : ((i : Int) == (i : Int)) = true := by simp
  go_wp2_with fail
  refine region_sc (by kernel_rfl) (by kernel_rfl) ?_
  go_big_quiet_want
  go_big_quiet_op
  refine ⟨_, fun wq hq => Sc.call awake31 hq, ?_⟩
  go_big_quiet_on
  iterate 2 (first | go_big_quiet_skip | (go_big_quiet_want; go_big_quiet_op; first | go_big_quiet_on | (refine ⟨_, fun _ _ => rfl, ?_⟩; go_big_quiet_on)))
  go_big_quiet_want
  go_big_quiet_op
  refine ⟨.int .i64 ((5 : Nat) : Int), fun wq hq => (num_ch [.pl i, .wo s] 5 (by decide) (by decide) (.iface T X) wq (HCH4.out.below hq)).mono fun e w' ⟨he, hb⟩ => ⟨he, Below.step hq hb⟩, ?_⟩
  go_big_quiet_on
  iterate 18 (first | go_big_quiet_skip | (go_big_quiet_want; go_big_quiet_op; first | go_big_quiet_on | (refine ⟨_, fun _ _ => rfl, ?_⟩; go_big_quiet_on)))
  go_big_quiet_want
  refine ⟨.string s, fun wq hq => ?_, ?_⟩
  · have q0 := (Below.cell hq (p := ⟨B, 0, none⟩) hlB).trans HCB.out
    unfold Oper.quietAt
    simp [go_sem, q0, Oper.quietUpon]
  simp only [Act.put, List.setIfInBounds_toArray, List.set_cons_zero, List.set_cons_succ]
  go_big_quiet_on
  iterate 1 (first | go_big_quiet_skip | (go_big_quiet_want; go_big_quiet_op; first | go_big_quiet_on | (refine ⟨_, fun _ _ => rfl, ?_⟩; go_big_quiet_on)))
  go_big_quiet_want
  go_big_quiet_op
  refine ⟨_, fun wq hq => Sc.call HW.out hq, ?_⟩
  go_big_quiet_on
  iterate 3 (first | go_big_quiet_skip | (go_big_quiet_want; go_big_quiet_op; first | go_big_quiet_on | (refine ⟨_, fun _ _ => rfl, ?_⟩; go_big_quiet_on)))
  refine wpQuiet_nil ?_
  intro w9 hv
  have hB9 : Below w.heap.size w w9 := Below.step hB4 hv
  clear hv
  go_wp2
  go_ret
  exact ⟨by simp, hB9⟩
end Go.Proofs.YtjkojbaphdlhlaaDoor.Rc

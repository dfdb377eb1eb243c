/-
  The example of the document.
-/
import Derived.Test.YtafignfoejefjaaRows
import Derived.Test.YtafignfoejefjaaKit
import Derived.Test.YtafignfoejefjaaApp
import Derived.Test.YtafignfoejefjaaQuiet
import Derived.WalkKit
import Derived.ProofKit
import Derived.OpenShut
import Derived.ShutString
import Derived.Below
import Derived.Outline
import Derived.WalkLawsBesides
import Derived.WalkSpells
import Derived.Handy
import Derived.Deep.QuietTactic
import Derived.BigQuiet
import Derived.RegionTactic
import Derived.ChangeAlike
import Derived.Lib.Hide
import Derived.Laws.Rows
import Derived.Laws.Tables
import Derived.Laws.CopyOwn
import Derived.Laws.MakeOwn
import Derived.Laws.Entries
import Derived.Laws.OwnMore
import Derived.Deep.WholeRow
import Derived.Deep.LoopGhost
import Derived.Deep.AppendLies
import Derived.Deep.Draws
import Derived.Maps.AppendAt
import Derived.OwnWalk
import Derived.Deep.RegionHeld3
import Derived.Deep.Cut
import Derived.Deep.CutRange
import Derived.Deep.DeepCutAuto
import Derived.Deep.CutBlock
import Derived.Lib.SliceRun
import Derived.IntWalk
import Derived.Test.YtafignfoejefjaaBkM
import Derived.Test.YtafignfoejefjaaBkO
import Derived.Test.YtafignfoejefjaaBkP
import Derived.Test.YtafignfoejefjaaBkQ
import Derived.Test.YtafignfoejefjaaBkL
import Derived.Test.YtafignfoejefjaaBkC
import Derived.Test.YtafignfoejefjaaRules
namespace Go.Proofs.Ytafignfoejefjaa
open Go.ChangeShapes Go.WideShapes Go.ChangeAt Go.RowKit
def exs : List Ord := [⟨0, 0, 0, 9, 1, 9, 5⟩, ⟨1, 0, 0, 9, 1, 9, 3⟩]
theorem exs_lv : LvIs exs 0 0 [⟨9, 8, 2⟩] := by
  have e9 : cnt (hitp 0 0 9) exs = 2 := by decide
  have s9 : sumq (hitp 0 0 9) exs = 8 := by decide
  refine ⟨List.pairwise_singleton _ _, fun x hx => ?_, fun p hp => ?_⟩
  · simp at hx
    subst hx
    exact ⟨by show (⟨9, 8, 2⟩ : Lvl) = ⟨9, _, _⟩; rw [e9, s9], by decide⟩
  · obtain ⟨o, ho, hh⟩ := (cnt_pos _ exs).1 hp
    refine ⟨⟨9, 8, 2⟩, List.mem_singleton.2 rfl, ?_⟩
    unfold hitp at hh
    simp at hh
    have : o.p = 9 := by
      simp [exs] at ho
      rcases ho with rfl | rfl <;> rfl
    show (9 : Int) = p
    rw [← this]; exact hh.2
theorem exs_fine : Fine exs := by
  intro o ho
  simp [exs] at ho
  rcases ho with rfl | rfl <;> decide
set_option maxHeartbeats 4000000 in
theorem awake_is (w : World) : Calls Try.prog 7 #[] w fun e w' => e = .returned (.bool true) ∧ Below w.heap.size w w' := by
  have HN := Lib.hid (fun W => rnew_ok 2 1 1 1 0 1 1 W (by omega) (by omega) (by omega) (by omega) (by omega) (by omega) (by omega))
  go_enter Try.func7, Try.ntmps7
  go_wp2_with fail
  refine (HN.out _).mono ?_
  rintro e1 w1 ⟨rfl, hb1⟩
  have HB1 := Lib.hid hb1
  clear hb1
  go_wp2_with fail
  have ho := World.ownsRow_lit (base := w1.heap.size) (e := 55) (size := 7) ((w1.alloc (.cells (List.toArray [.int .i64 2, .int .i64 1, .int .i64 1, .int .i64 1, .int .i64 0, .int .i64 1, .int .i64 1]) 26)).alloc (.cells (List.toArray [.int .i64 0, .int .i64 0, .int .i64 9, .int .i64 1, .int .i64 9]) 48)) (List.toArray [.int .i64 0, .int .i64 0, .int .i64 0, .int .i64 9, .int .i64 1, .int .i64 9, .int .i64 5, .int .i64 1, .int .i64 0, .int .i64 0, .int .i64 9, .int .i64 1, .int .i64 9, .int .i64 3]) 2 (by simp; omega) (by unfold maxLen; omega) rfl
  rw [World.size_alloc, World.size_alloc] at ho
  have hg : Below w1.heap.size w1 (((w1.alloc (.cells (List.toArray [.int .i64 2, .int .i64 1, .int .i64 1, .int .i64 1, .int .i64 0, .int .i64 1, .int .i64 1]) 26)).alloc (.cells (List.toArray [.int .i64 0, .int .i64 0, .int .i64 9, .int .i64 1, .int .i64 9]) 48)).alloc (.cells (List.toArray [.int .i64 0, .int .i64 0, .int .i64 0, .int .i64 9, .int .i64 1, .int .i64 9, .int .i64 5, .int .i64 1, .int .i64 0, .int .i64 0, .int .i64 9, .int .i64 1, .int .i64 9, .int .i64 3]) 55)) := by go_grown
  have HB2 := Lib.hid (Below.step HB1.out hg)
  have HO : Hid ((((w1.alloc (.cells (List.toArray [.int .i64 2, .int .i64 1, .int .i64 1, .int .i64 1, .int .i64 0, .int .i64 1, .int .i64 1]) 26)).alloc (.cells (List.toArray [.int .i64 0, .int .i64 0, .int .i64 9, .int .i64 1, .int .i64 9]) 48)).alloc (.cells (List.toArray [.int .i64 0, .int .i64 0, .int .i64 0, .int .i64 9, .int .i64 1, .int .i64 9, .int .i64 5, .int .i64 1, .int .i64 0, .int .i64 0, .int .i64 9, .int .i64 1, .int .i64 9, .int .i64 3]) 55)).ownsRow w1.heap.size 55 7 (.slice (some ⟨w1.heap.size + 1 + 1, 0, none⟩) 2 2) 2 (ov exs)) := Lib.hid ho
  clear ho hg
  refine (new_is 2 1 1 1 0 1 1 w1.heap.size 2 _ 2 exs _ rfl HO.out (by decide)).mono ?_
  rintro e2 w2 ⟨v, rfl, ho2, hb2⟩
  have HB3 := Lib.hid (Below.step HB2.out hb2)
  clear HB2 HO hb2
  obtain ⟨A2, c2, rfl⟩ := oshape ho2
  have HO2 := Lib.hid ho2
  clear ho2
  go_wp2_with fail
  refine (levels_is 2 1 1 1 0 1 1 _ c2 A2 2 exs 0 0 _ rfl HO2.out (by decide) exs_fine).mono ?_
  rintro e3 w3 ⟨v3, ls, rfl, hls, ho3, _, hb3⟩
  obtain rfl := hls.unique exs_lv
  have HB4 := Lib.hid (Below.step HB3.out hb3)
  clear hls hb3
  obtain ⟨g3, c3, rfl, _, _⟩ := own_some ho3 (by decide)
  have x0 : w3.cell? ⟨g3, 0, none⟩ = some (.int .i64 9) := vrow_cell (k := 0) (j := 0) ho3 (x := ⟨9, 8, 2⟩) rfl rfl (by omega) rfl
  have x1 : w3.cell? ⟨g3, 1, none⟩ = some (.int .i64 8) := vrow_cell (k := 0) (j := 1) ho3 (x := ⟨9, 8, 2⟩) rfl rfl (by omega) rfl
  have x2 : w3.cell? ⟨g3, 2, none⟩ = some (.int .i64 2) := vrow_cell (k := 0) (j := 2) ho3 (x := ⟨9, 8, 2⟩) rfl rfl (by omega) rfl
  clear ho3
  go_wp2_with fail
  go_ret
  exact ⟨rfl, HB4.out⟩
end Go.Proofs.Ytafignfoejefjaa

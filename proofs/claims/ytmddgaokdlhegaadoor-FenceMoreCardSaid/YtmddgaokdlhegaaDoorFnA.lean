/-
  The statement's example of layer 27.
-/
import Derived.Test.YtmddgaokdlhegaaDoorRows
import Derived.Test.YtmddgaokdlhegaaDoorKit
import Derived.Test.YtmddgaokdlhegaaDoorApp
import Derived.Test.YtmddgaokdlhegaaDoorQuiet
import Derived.Test.YtmddgaokdlhegaaDoorFnM
import Derived.Test.YtmddgaokdlhegaaDoorFnO
import Derived.Test.YtmddgaokdlhegaaDoorFnB
import Derived.Test.YtmddgaokdlhegaaDoorFnR
import Derived.Test.YtmddgaokdlhegaaDoorFnL
import Derived.Test.YtmddgaokdlhegaaDoorFnN
import Derived.Test.YtmddgaokdlhegaaDoorAsF
import Derived.Test.YtmddgaokdlhegaaDoorAsC
import Derived.Test.YtmddgaokdlhegaaDoorAsD
import Derived.Test.YtmddgaokdlhegaaDoorAsE
import Derived.Test.YtmddgaokdlhegaaDoorAsG
import Derived.Test.YtmddgaokdlhegaaDoorFnKa
import Derived.Test.YtmddgaokdlhegaaDoorFnKb
import Derived.Test.YtmddgaokdlhegaaDoorFnKc
import Derived.Test.YtmddgaokdlhegaaDoorFnKd
import Derived.Test.YtmddgaokdlhegaaDoorFnV
import Derived.Test.YtmddgaokdlhegaaDoorFnRules
import Derived.WalkKit
import Derived.ProofKit
import Derived.OpenShut
import Derived.ShutString
import Derived.Below
import Derived.Outline
import Derived.WalkLawsBesides
import Derived.WalkSpells
import Derived.Handy
import Derived.Deep.QuietTactic
import Derived.BigQuiet
import Derived.RegionTactic
import Derived.ChangeAlike
import Derived.Lib.Hide
import Derived.Laws.Rows
import Derived.Laws.Tables
import Derived.Laws.CopyOwn
import Derived.Laws.MakeOwn
import Derived.Laws.Entries
import Derived.Laws.OwnMore
import Derived.Deep.WholeRow
import Derived.Deep.LoopGhost
import Derived.Deep.AppendLies
import Derived.Deep.Draws
import Derived.Maps.AppendAt
import Derived.OwnWalk
import Derived.Deep.RegionHeld3
import Derived.Deep.Cut
import Derived.Deep.CutRange
import Derived.Deep.DeepCutAuto
import Derived.Deep.CutBlock
import Derived.Lib.SliceRun
import Derived.IntWalk
namespace Go.Proofs.YtmddgaokdlhegaaDoor
open Go.ChangeShapes Go.WideShapes Go.ChangeAt Go.RowKit
def WordsAt (L : List ByteArray) (e : Ending) (w w' : World) : Prop := ∃ A cp, e = .returned (.slice A L.length cp) ∧ (∀ s r, L = s :: r → ∃ g, A = some ⟨g, 0, none⟩ ∧ g < w'.heap.size ∧ w'.cell? ⟨g, 0, none⟩ = some (.string s)) ∧ Below w.heap.size w w'
theorem words_at (l : List Wr) (L : List ByteArray) (hL : wos l = L) (c : Int) (v : Value) (w : World) (h : Ch w c l v) (hg : w.cell? ⟨0, 0, none⟩ = some (.iface 95 (.agg #[.pointer (some ⟨1, 35, none⟩)]))) (hgl : 0 < w.heap.size) (hl : L.length ≤ 1000) : Calls Tryd.prog 15 #[v] w fun e w' => WordsAt L e w w' := by
  subst hL
  refine (words_is l c v w h hg hgl hl).mono fun e w' ⟨r, he, hr, hb⟩ => ?_
  obtain ⟨A, cp, rfl⟩ := own_shape hr
  refine ⟨A, cp, he, fun s t hst => ?_, hb⟩
  obtain ⟨g, cap, hv, hg1, hg2⟩ := World.ownsRow.form hr (by rw [hst]; exact Nat.succ_pos _)
  have hA : A = some ⟨g, 0, none⟩ := by injection hv
  subst hA
  refine ⟨g, rfl, hg2, ?_⟩
  have hc := World.ownsRow.cells hr (g := g) rfl 0 (.string s) (by rw [hst]; rfl)
  exact hc
set_option maxRecDepth 100000 in
set_option maxHeartbeats 8000000 in
theorem awake_is (w : World) (hg : w.cell? ⟨0, 0, none⟩ = some (.iface 95 (.agg #[.pointer (some ⟨1, 35, none⟩)]))) (hgl : 0 < w.heap.size) : Calls Tryd.prog 7 #[] w fun e w' => e = .returned (.bool true) ∧ Below w.heap.size w w' := by
  have HGG := Lib.hid hg
  have HN := Lib.hid (rnew_ok 1 1 1 1 0 1 1 w (by decide) (by decide) (by decide) (by decide) (by decide) (by decide) (by decide))
  have HNEW := Lib.hid (fun (W : World) (b : Nat) (hW : W.ownsRow 0 61 5 (.slice (some ⟨b, 0, none⟩) 1 1) 1 (lv [⟨1, 9, 99, 9, 0⟩])) => new_ok 1 1 1 1 0 1 1 0 (some ⟨b, 0, none⟩) 1 [⟨1, 9, 99, 9, 0⟩] W hW rfl (by decide) (by decide))
  clear hg
  go_enter Tryd.func7, Tryd.ntmps7
  go_wp2_with fail
  refine HN.out.mono ?_
  rintro e1 w1 ⟨rfl, hb1⟩
  have HB1 := Lib.hid hb1
  clear hb1
  go_wp2_with fail
  have hb2 : Below w1.heap.size w1 ((w1.alloc (.cells (List.toArray [.int .i64 1, .int .i64 1, .int .i64 1, .int .i64 1, .int .i64 0, .int .i64 1, .int .i64 1]) 33)).alloc (.cells (List.toArray [.int .i64 1, .int .i64 9, .int .i64 99, .int .i64 9, .int .i64 0]) 61)) := by go_grown
  have hr2 := World.ownsRow_lit (base := 0) (e := 61) (size := 5) (w1.alloc (.cells (List.toArray [.int .i64 1, .int .i64 1, .int .i64 1, .int .i64 1, .int .i64 0, .int .i64 1, .int .i64 1]) 33)) #[.int .i64 1, .int .i64 9, .int .i64 99, .int .i64 9, .int .i64 0] 1 (Nat.zero_le _) (by unfold maxLen; omega) rfl
  rw [World.size_alloc] at hr2
  have HN2 := Lib.hid (HNEW.out ((w1.alloc (.cells (List.toArray [.int .i64 1, .int .i64 1, .int .i64 1, .int .i64 1, .int .i64 0, .int .i64 1, .int .i64 1]) 33)).alloc (.cells (List.toArray [.int .i64 1, .int .i64 9, .int .i64 99, .int .i64 9, .int .i64 0]) 61)) _ hr2)
  have HB2 := Lib.hid (Below.step HB1.out hb2)
  clear hb2 hr2
  refine HN2.out.mono ?_
  rintro e2 w2 ⟨F, rfl, hF, hb3⟩
  have HF := Lib.hid hF
  have HB3 := Lib.hid (Below.step HB2.out hb3)
  clear hF hb3 HN2 HNEW HN
  have hb4 : Below w2.heap.size w2 (w2.alloc (.cells (List.toArray [.int .i64 1, .int .i64 0, .int .i64 0, .int .i64 0, .int .i64 0, .int .i64 2, .int .i64 0, .int .i64 0, .int .i64 1]) 48)) := by go_grown
  have HF4 := Lib.hid (HF.out.below hb4)
  have HB4 := Lib.hid (Below.step HB3.out hb4)
  have bQ := Bl.new w2 [.int .i64 1, .int .i64 0, .int .i64 0, .int .i64 0, .int .i64 0, .int .i64 2, .int .i64 0, .int .i64 0, .int .i64 1] 48
  have HQ := Lib.hid bQ
  have HM := Lib.hid (may_open F _ [⟨1, 9, 99, 9, 0⟩] 0 ⟨1, 9, 99, 9, 0⟩ ⟨1, 0, 0, 0, 0, 2, 0, 0, 1⟩ ⟨1, 0, 0, 0, 0, 0⟩ 0 _ HF4.out rfl (by decide) rfl ⟨by decide, by decide, by decide, by decide, by decide, by decide⟩ (by decide) (by decide) (by show (1 : Int) < 1 + 1; omega))
  clear hb4 bQ
  go_wp2_with fail
  refine HM.out.mono ?_
  rintro e5 w5 ⟨r, rfl, hc5, hb5⟩
  obtain ⟨T, y, hy⟩ := hc5.iface
  subst hy
  have HC5 := Lib.hid hc5
  have HB5 := Lib.hid (Below.step HB4.out hb5)
  have HF5 := Lib.hid (HF4.out.below hb5)
  have HQ5 := Lib.hid (HQ.out.below hb5)
  have HG5 := Lib.hid ((HB5.out.cell (p := ⟨0, 0, none⟩) hgl).trans HGG.out)
  have HL5 := Lib.hid (Nat.lt_of_lt_of_le hgl HB5.out.size)
  have HW := Lib.hid (words_at [.wo ⟨#[111, 112, 101, 110]⟩] [⟨#[111, 112, 101, 110]⟩] rfl 4 _ w5 HC5.out HG5.out HL5.out (by decide))
  clear hc5 hb5 HF4 HQ HM HF
  go_wp2_with fail
  refine HW.out.mono ?_
  rintro e6 w6 ⟨A, cp, rfl, hA, hb6⟩
  obtain ⟨g, rfl, hgl6, hgc6⟩ := hA _ _ rfl
  have HB6 := Lib.hid (Below.step HB5.out hb6)
  have HF6 := Lib.hid (HF5.out.below hb6)
  have HC6 := Lib.hid (HC5.out.below hb6)
  have bQ6 := HQ5.out.below hb6
  have HG6 := Lib.hid ((HB6.out.cell (p := ⟨0, 0, none⟩) hgl).trans HGG.out)
  have HL6 := Lib.hid (Nat.lt_of_lt_of_le hgl HB6.out.size)
  have HM := Lib.hid (may_ok F _ [⟨1, 9, 99, 9, 0⟩] 0 ⟨1, 9, 99, 9, 0⟩ ⟨1, 0, 0, 0, 0, 2, 0, 0, 1⟩ ⟨0, 0, 0, 0, 0, 0⟩ 0 _ HF6.out rfl (by decide) ⟨by decide, by decide, by decide, by decide, by decide, by decide⟩ (by decide) (by decide) (by decide) (by decide))
  have q0 : w6.cell? ⟨w2.heap.size, 0, none⟩ = some (.int .i64 1) := bQ6.cell 0 _ rfl
  have q1 : w6.cell? ⟨w2.heap.size, 1, none⟩ = some (.int .i64 0) := bQ6.cell 1 _ rfl
  have q2 : w6.cell? ⟨w2.heap.size, 2, none⟩ = some (.int .i64 0) := bQ6.cell 2 _ rfl
  have q3 : w6.cell? ⟨w2.heap.size, 3, none⟩ = some (.int .i64 0) := bQ6.cell 3 _ rfl
  have q4 : w6.cell? ⟨w2.heap.size, 4, none⟩ = some (.int .i64 0) := bQ6.cell 4 _ rfl
  have q5 : w6.cell? ⟨w2.heap.size, 5, none⟩ = some (.int .i64 2) := bQ6.cell 5 _ rfl
  have q6 : w6.cell? ⟨w2.heap.size, 6, none⟩ = some (.int .i64 0) := bQ6.cell 6 _ rfl
  have q7 : w6.cell? ⟨w2.heap.size, 7, none⟩ = some (.int .i64 0) := bQ6.cell 7 _ rfl
  have q8 : w6.cell? ⟨w2.heap.size, 8, none⟩ = some (.int .i64 1) := bQ6.cell 8 _ rfl
  have HGC := Lib.hid hgc6
  have HGL := Lib.hid hgl6
  clear hA hb6 HF5 HC5 HQ5 HW bQ6 hgc6 hgl6
  go_wp2_with fail
  refine HM.out.mono ?_
  rintro e7 w7 ⟨rfl, hb7⟩
  have HB7 := Lib.hid (Below.step HB6.out hb7)
  have HC7 := Lib.hid (HC6.out.below hb7)
  have HG7 := Lib.hid ((HB7.out.cell (p := ⟨0, 0, none⟩) hgl).trans HGG.out)
  have HL7 := Lib.hid (Nat.lt_of_lt_of_le hgl HB7.out.size)
  have HGC7 := Lib.hid ((hb7.cell (p := ⟨g, 0, none⟩) HGL.out).trans HGC.out)
  have HGL7 := Lib.hid (Nat.lt_of_lt_of_le HGL.out hb7.size)
  clear hb7 q0 q1 q2 q3 q4 q5 q6 q7 q8
  go_wp2_with fail
  refine (code_is _ _ _ _ HC7.out HG7.out HL7.out).mono ?_
  rintro e8 w8 ⟨rfl, hb8⟩
  have hgc8 := (hb8.cell (p := ⟨g, 0, none⟩) HGL7.out).trans HGC7.out
  have HB8 := Lib.hid (Below.step HB7.out hb8)
  clear hb8
  go_wp2_with fail
  go_ret
  exact ⟨rfl, HB8.out⟩
end Go.Proofs.YtmddgaokdlhegaaDoor

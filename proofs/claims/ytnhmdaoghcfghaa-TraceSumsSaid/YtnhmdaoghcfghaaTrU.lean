/-
  The abstract pool: the document's example.
-/
import Derived.Test.YtnhmdaoghcfghaaRows
import Derived.Test.YtnhmdaoghcfghaaKit
import Derived.Test.YtnhmdaoghcfghaaApp
import Derived.Test.YtnhmdaoghcfghaaQuiet
import Derived.Test.YtnhmdaoghcfghaaTrM
import Derived.Test.YtnhmdaoghcfghaaTrS
import Derived.Test.YtnhmdaoghcfghaaTrF
import Derived.Test.YtnhmdaoghcfghaaTrG
import Derived.Test.YtnhmdaoghcfghaaTrH
import Derived.Test.YtnhmdaoghcfghaaTrI
import Derived.Test.YtnhmdaoghcfghaaTrJ
import Derived.Test.YtnhmdaoghcfghaaTrK
import Derived.Test.YtnhmdaoghcfghaaTrL
import Derived.Test.YtnhmdaoghcfghaaTrN
import Derived.Test.YtnhmdaoghcfghaaTrO
import Derived.Test.YtnhmdaoghcfghaaRules
import Derived.Test.YtnhmdaoghcfghaaTrP
import Derived.Test.YtnhmdaoghcfghaaTrQ
import Derived.Test.YtnhmdaoghcfghaaTrR
import Derived.Test.YtnhmdaoghcfghaaTrT
import Derived.WalkKit
import Derived.ProofKit
import Derived.OpenShut
import Derived.ShutString
import Derived.Below
import Derived.Outline
import Derived.WalkLawsBesides
import Derived.WalkSpells
import Derived.Handy
import Derived.Deep.QuietTactic
import Derived.BigQuiet
import Derived.RegionTactic
import Derived.ChangeAlike
import Derived.Lib.Hide
import Derived.Laws.Rows
import Derived.Laws.Tables
import Derived.Laws.CopyOwn
import Derived.Laws.MakeOwn
import Derived.Laws.Entries
import Derived.Laws.OwnMore
import Derived.Deep.WholeRow
import Derived.Deep.LoopGhost
import Derived.Deep.AppendLies
import Derived.Deep.Draws
import Derived.Maps.AppendAt
import Derived.OwnWalk
import Derived.Deep.RegionHeld3
import Derived.Deep.Cut
import Derived.Deep.CutRange
import Derived.Deep.DeepCutAuto
import Derived.Deep.CutBlock
import Derived.Lib.SliceRun
import Derived.IntWalk
namespace Go.Proofs.Ytnhmdaoghcfghaa
open Go.ChangeShapes Go.WideShapes Go.ChangeAt Go.RowKit
def osk : Nat → List Ord
  | 0 => []
  | 1 => [⟨0, 1, 0, 0, 10, 1, 5, 5, 5, 0, false, false, 0⟩]
  | 2 => [⟨0, 1, 0, 0, 10, 1, 5, 5, 5, 0, false, false, 0⟩, ⟨1, 1, 0, 1, 8, 1, 5, 3, 3, 0, false, false, 0⟩]
  | _ => [⟨0, 1, 0, 0, 10, 1, 5, 5, 2, 1, false, false, 0⟩, ⟨1, 1, 0, 1, 8, 1, 5, 3, 0, 1, false, false, 5⟩]
set_option maxRecDepth 100000 in
set_option maxHeartbeats 8000000 in
theorem play_is (w : World) (g : Nat) (hg : Bl g [.int .i64 1, .int .i64 0, .int .i64 1, .int .i64 0, .int .i64 0, .int .i64 0, .int .i64 0, .int .i64 10, .int .i64 1, .int .i64 5, .int .i64 5, .int .i64 0, .int .i64 0, .int .i64 0, .int .i64 1, .int .i64 1, .int .i64 1, .int .i64 0, .int .i64 0, .int .i64 0, .int .i64 1, .int .i64 8, .int .i64 1, .int .i64 5, .int .i64 3, .int .i64 0, .int .i64 0, .int .i64 0, .int .i64 2, .int .i64 0, .int .i64 1, .int .i64 1, .int .i64 1, .int .i64 0, .int .i64 0, .int .i64 0, .int .i64 0, .int .i64 0, .int .i64 3, .int .i64 9, .int .i64 0, .int .i64 0] w) : Calls Try.prog 15 #[.agg #[.int .i64 2, .int .i64 1, .int .i64 1, .int .i64 1, .int .i64 0, .int .i64 2, .int .i64 1], .slice (some ⟨g, 0, none⟩) 3 3] w fun e w' => ∃ (B K : Nat) (v' : Value), e = .returned (.tuple #[.pointer (some ⟨B, 0, none⟩), .nilIface]) ∧ MS (fun (k : Nat) (o : Option Obj) => k < w.heap.size ∧ o = w.heap[k]?) (w.alloc (.cells (List.toArray [.int .i64 2, .int .i64 1, .int .i64 1, .int .i64 1, .int .i64 0, .int .i64 2, .int .i64 1]) 26)) w' B K 2 1 1 1 0 2 1 v' [⟨0, 1, 0, 0, 10, 1, 5, 5, 2, 1, false, false, 0⟩, ⟨1, 1, 0, 1, 8, 1, 5, 3, 0, 1, false, false, 5⟩] 0 := by
  have hgl := hg.lt
  have HG := Lib.hid hg
  have hN := new_is (fun (k : Nat) (o : Option Obj) => k < w.heap.size ∧ o = w.heap[k]?) 2 1 1 1 0 2 1 (w.alloc (.cells (List.toArray [.int .i64 2, .int .i64 1, .int .i64 1, .int .i64 1, .int .i64 0, .int .i64 2, .int .i64 1]) 26)) (fun k o hk => ⟨(Below.heap_alloc w _ k hk.1).trans hk.2.symm, by rw [World.size_alloc]; omega⟩)
  obtain ⟨B, hB⟩ : ∃ B, B = (w.alloc (.cells (List.toArray [.int .i64 2, .int .i64 1, .int .i64 1, .int .i64 1, .int .i64 0, .int .i64 2, .int .i64 1]) 26)).heap.size + 1 := ⟨_, rfl⟩
  obtain ⟨K, hK⟩ : ∃ K, K = (w.alloc (.cells (List.toArray [.int .i64 2, .int .i64 1, .int .i64 1, .int .i64 1, .int .i64 0, .int .i64 2, .int .i64 1]) 26)).heap.size + 2 := ⟨_, rfl⟩
  rw [← hB, ← hK] at hN
  have HN := Lib.hid hN
  clear hN hB hK hg
  go_enter Try.func15, Try.ntmps15
  go_wp2_with fail
  refine HN.out.mono ?_
  rintro e w2 ⟨rfl, hM0⟩
  have HM0 := Lib.hid hM0
  clear hM0
  generalize hW1 : (w.alloc (.cells (List.toArray [.int .i64 2, .int .i64 1, .int .i64 1, .int .i64 1, .int .i64 0, .int .i64 2, .int .i64 1]) 26)) = w1 at *
  go_wp2_with fail
  go_loopw [14] (fun i wr => ∃ (k : Nat) (x : Int) (v' : Value), k ≤ 3 ∧ x = (k : Int) ∧ i = .int .i64 x ∧ Hid (MS (fun (k : Nat) (o : Option Obj) => k < w.heap.size ∧ o = w.heap[k]?) w1 wr B K 2 1 1 1 0 2 1 v' (osk k) 0)) (fun i _ => 4 - (intOf i).toNat)
  case atStart => exact ⟨0, 0, _, by omega, rfl, rfl, HM0⟩
  case round =>
    clear HM0
    obtain ⟨k, x, v', hk, hx, rfl, HM⟩ := hrel
    have bG : Bl g [.int .i64 1, .int .i64 0, .int .i64 1, .int .i64 0, .int .i64 0, .int .i64 0, .int .i64 0, .int .i64 10, .int .i64 1, .int .i64 5, .int .i64 5, .int .i64 0, .int .i64 0, .int .i64 0, .int .i64 1, .int .i64 1, .int .i64 1, .int .i64 0, .int .i64 0, .int .i64 0, .int .i64 1, .int .i64 8, .int .i64 1, .int .i64 5, .int .i64 3, .int .i64 0, .int .i64 0, .int .i64 0, .int .i64 2, .int .i64 0, .int .i64 1, .int .i64 1, .int .i64 1, .int .i64 0, .int .i64 0, .int .i64 0, .int .i64 0, .int .i64 0, .int .i64 3, .int .i64 9, .int .i64 0, .int .i64 0] wr := by
      obtain ⟨tt, ht⟩ := HG.out
      exact ⟨tt, ((HM.out.fx g _ ⟨hgl, rfl⟩).1).trans ht⟩
    rcases (show k = 0 ∨ k = 1 ∨ k = 2 ∨ k = 3 by omega) with rfl | rfl | rfl | rfl
    · obtain rfl : x = 0 := by omega
      clear hx hk
      have c0 : wr.cell? ⟨g, 0, none⟩ = some (.int .i64 1) := bG.cell 0 _ rfl
      have c1 : wr.cell? ⟨g, 1, none⟩ = some (.int .i64 0) := bG.cell 1 _ rfl
      have c2 : wr.cell? ⟨g, 2, none⟩ = some (.int .i64 1) := bG.cell 2 _ rfl
      have c3 : wr.cell? ⟨g, 3, none⟩ = some (.int .i64 0) := bG.cell 3 _ rfl
      have c4 : wr.cell? ⟨g, 4, none⟩ = some (.int .i64 0) := bG.cell 4 _ rfl
      have c5 : wr.cell? ⟨g, 5, none⟩ = some (.int .i64 0) := bG.cell 5 _ rfl
      have c6 : wr.cell? ⟨g, 6, none⟩ = some (.int .i64 0) := bG.cell 6 _ rfl
      have c7 : wr.cell? ⟨g, 7, none⟩ = some (.int .i64 10) := bG.cell 7 _ rfl
      have c8 : wr.cell? ⟨g, 8, none⟩ = some (.int .i64 1) := bG.cell 8 _ rfl
      have c9 : wr.cell? ⟨g, 9, none⟩ = some (.int .i64 5) := bG.cell 9 _ rfl
      have c10 : wr.cell? ⟨g, 10, none⟩ = some (.int .i64 5) := bG.cell 10 _ rfl
      have c11 : wr.cell? ⟨g, 11, none⟩ = some (.int .i64 0) := bG.cell 11 _ rfl
      have c12 : wr.cell? ⟨g, 12, none⟩ = some (.int .i64 0) := bG.cell 12 _ rfl
      have c13 : wr.cell? ⟨g, 13, none⟩ = some (.int .i64 0) := bG.cell 13 _ rfl
      have HMa := Lib.hid (HM.out.below ((Below.refl wr.heap.size wr).alloc (Nat.le_refl _) (.cells #[.int .i64 1, .int .i64 0, .int .i64 1, .int .i64 0, .int .i64 0, .int .i64 0, .int .i64 0, .int .i64 10, .int .i64 1, .int .i64 5, .int .i64 5, .int .i64 0, .int .i64 0, .int .i64 0] 41)))
      have HD := Lib.hid (do1 (fun (k : Nat) (o : Option Obj) => k < w.heap.size ∧ o = w.heap[k]?) w1 _ B K v' HMa.out)
      clear bG
      go_wp2_with fail
      refine HD.out.mono ?_
      rintro rr w5 ⟨rfl, v5, hM5⟩
      have HM5 := Lib.hid hM5
      clear hM5
      go_wp2_with fail
      go_roundw
      case rel => exact ⟨1, 1, v5, by omega, rfl, by first | rfl | go_num, HM5⟩
      case measure => simp [intOf]
    · obtain rfl : x = 1 := by omega
      clear hx hk
      have c0 : wr.cell? ⟨g, 14, none⟩ = some (.int .i64 1) := bG.cell 14 _ rfl
      have c1 : wr.cell? ⟨g, 15, none⟩ = some (.int .i64 1) := bG.cell 15 _ rfl
      have c2 : wr.cell? ⟨g, 16, none⟩ = some (.int .i64 1) := bG.cell 16 _ rfl
      have c3 : wr.cell? ⟨g, 17, none⟩ = some (.int .i64 0) := bG.cell 17 _ rfl
      have c4 : wr.cell? ⟨g, 18, none⟩ = some (.int .i64 0) := bG.cell 18 _ rfl
      have c5 : wr.cell? ⟨g, 19, none⟩ = some (.int .i64 0) := bG.cell 19 _ rfl
      have c6 : wr.cell? ⟨g, 20, none⟩ = some (.int .i64 1) := bG.cell 20 _ rfl
      have c7 : wr.cell? ⟨g, 21, none⟩ = some (.int .i64 8) := bG.cell 21 _ rfl
      have c8 : wr.cell? ⟨g, 22, none⟩ = some (.int .i64 1) := bG.cell 22 _ rfl
      have c9 : wr.cell? ⟨g, 23, none⟩ = some (.int .i64 5) := bG.cell 23 _ rfl
      have c10 : wr.cell? ⟨g, 24, none⟩ = some (.int .i64 3) := bG.cell 24 _ rfl
      have c11 : wr.cell? ⟨g, 25, none⟩ = some (.int .i64 0) := bG.cell 25 _ rfl
      have c12 : wr.cell? ⟨g, 26, none⟩ = some (.int .i64 0) := bG.cell 26 _ rfl
      have c13 : wr.cell? ⟨g, 27, none⟩ = some (.int .i64 0) := bG.cell 27 _ rfl
      have HMa := Lib.hid (HM.out.below ((Below.refl wr.heap.size wr).alloc (Nat.le_refl _) (.cells #[.int .i64 1, .int .i64 1, .int .i64 1, .int .i64 0, .int .i64 0, .int .i64 0, .int .i64 1, .int .i64 8, .int .i64 1, .int .i64 5, .int .i64 3, .int .i64 0, .int .i64 0, .int .i64 0] 41)))
      have HD := Lib.hid (do2 (fun (k : Nat) (o : Option Obj) => k < w.heap.size ∧ o = w.heap[k]?) w1 _ B K v' HMa.out)
      clear bG
      go_wp2_with fail
      refine HD.out.mono ?_
      rintro rr w5 ⟨rfl, v5, hM5⟩
      have HM5 := Lib.hid hM5
      clear hM5
      go_wp2_with fail
      go_roundw
      case rel => exact ⟨2, 2, v5, by omega, rfl, by first | rfl | go_num, HM5⟩
      case measure => simp [intOf]
    · obtain rfl : x = 2 := by omega
      clear hx hk
      have c0 : wr.cell? ⟨g, 28, none⟩ = some (.int .i64 2) := bG.cell 28 _ rfl
      have c1 : wr.cell? ⟨g, 29, none⟩ = some (.int .i64 0) := bG.cell 29 _ rfl
      have c2 : wr.cell? ⟨g, 30, none⟩ = some (.int .i64 1) := bG.cell 30 _ rfl
      have c3 : wr.cell? ⟨g, 31, none⟩ = some (.int .i64 1) := bG.cell 31 _ rfl
      have c4 : wr.cell? ⟨g, 32, none⟩ = some (.int .i64 1) := bG.cell 32 _ rfl
      have c5 : wr.cell? ⟨g, 33, none⟩ = some (.int .i64 0) := bG.cell 33 _ rfl
      have c6 : wr.cell? ⟨g, 34, none⟩ = some (.int .i64 0) := bG.cell 34 _ rfl
      have c7 : wr.cell? ⟨g, 35, none⟩ = some (.int .i64 0) := bG.cell 35 _ rfl
      have c8 : wr.cell? ⟨g, 36, none⟩ = some (.int .i64 0) := bG.cell 36 _ rfl
      have c9 : wr.cell? ⟨g, 37, none⟩ = some (.int .i64 0) := bG.cell 37 _ rfl
      have c10 : wr.cell? ⟨g, 38, none⟩ = some (.int .i64 3) := bG.cell 38 _ rfl
      have c11 : wr.cell? ⟨g, 39, none⟩ = some (.int .i64 9) := bG.cell 39 _ rfl
      have c12 : wr.cell? ⟨g, 40, none⟩ = some (.int .i64 0) := bG.cell 40 _ rfl
      have c13 : wr.cell? ⟨g, 41, none⟩ = some (.int .i64 0) := bG.cell 41 _ rfl
      have HMa := Lib.hid (HM.out.below ((Below.refl wr.heap.size wr).alloc (Nat.le_refl _) (.cells #[.int .i64 2, .int .i64 0, .int .i64 1, .int .i64 1, .int .i64 1, .int .i64 0, .int .i64 0, .int .i64 0, .int .i64 0, .int .i64 0, .int .i64 3, .int .i64 9, .int .i64 0, .int .i64 0] 41)))
      have HD := Lib.hid (do3 (fun (k : Nat) (o : Option Obj) => k < w.heap.size ∧ o = w.heap[k]?) w1 _ B K v' HMa.out)
      clear bG
      go_wp2_with fail
      refine HD.out.mono ?_
      rintro rr w5 ⟨rfl, v5, hM5⟩
      have HM5 := Lib.hid hM5
      clear hM5
      go_wp2_with fail
      go_roundw
      case rel => exact ⟨3, 3, v5, by omega, rfl, by first | rfl | go_num, HM5⟩
      case measure => simp [intOf]
    · obtain rfl : x = 3 := by omega
      clear hx hk bG
      go_wp2_with fail
      refine bodyPost_ret (by simp [results, Try.results15, go_sem]; try rfl) rfl ⟨B, K, v', rfl, by rw [hW1]; exact HM.out⟩
end Go.Proofs.Ytnhmdaoghcfghaa

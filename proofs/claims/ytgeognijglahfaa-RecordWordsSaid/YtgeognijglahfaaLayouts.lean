/-
  The layouts of a state and of a record.
-/
import Derived.Test.YtgeognijglahfaaRows
import Derived.WalkKit
import Derived.ProofKit
import Derived.OpenShut
import Derived.ShutString
import Derived.Below
import Derived.Outline
import Derived.WalkLawsBesides
import Derived.WalkSpells
import Derived.Handy
import Derived.Deep.QuietTactic
import Derived.BigQuiet
import Derived.RegionTactic
import Derived.ChangeAlike
import Derived.Lib.Hide
import Derived.Laws.Rows
import Derived.Laws.Tables
import Derived.Laws.CopyOwn
import Derived.Deep.WholeRow
import Derived.Deep.LoopGhost
import Derived.Laws.BitsAllLaws
import Derived.Laws.BitsLemmas
import Derived.IntWalk
import Derived.Test.YtgeognijglahfaaKit
import Derived.Test.YtgeognijglahfaaLay
import Derived.Test.YtgeognijglahfaaAny
import Derived.Test.YtgeognijglahfaaGet
import Derived.Test.YtgeognijglahfaaWithM
import Derived.Test.YtgeognijglahfaaIs
import Derived.Deep.RegionHeld3
import Derived.Deep.Cut
import Derived.Deep.CutRange
import Derived.Deep.DeepCutAuto
import Derived.Deep.CutBlock
import Derived.Deep.RegionLaw
import Derived.Test.YtgeognijglahfaaQuiet
import Derived.Test.YtgeognijglahfaaNumF
import Derived.Test.YtgeognijglahfaaWith
import Derived.Test.YtgeognijglahfaaWithM
import Derived.Test.YtgeognijglahfaaRefTwo
import Derived.Test.YtgeognijglahfaaAwakeB
namespace Go.Proofs.Ytgeognijglahfaa
open Go.ChangeShapes Go.WideShapes Go.ChangeAt Go.RowKit
/-- Where fields begin. -/
def shc : Nat → Int
  | 0 => 0 | 1 => 4 | 2 => 5 | 3 => 13 | 4 => 29 | 5 => 37 | _ => 0
def wdc : Nat → Int
  | 0 => 4 | 1 => 1 | 2 => 8 | 3 => 16 | 4 => 8 | _ => 0
theorem shc_steps : Steps 5 shc := ⟨rfl, by decide, fun k hk => by
  match k, hk with
  | 0, _ | 1, _ | 2, _ | 3, _ | 4, _ => decide⟩
theorem shc_wd : ∀ k, k < 5 → shc (k + 1) = shc k + wdc k := fun k hk => by match k, hk with | 0, _ | 1, _ | 2, _ | 3, _ | 4, _ => rfl
theorem shc_cut : (fun k => if k ≤ 5 then shc k else 0) = shc := by
  funext k
  by_cases h : k ≤ 5
  · rw [if_pos h]
  · rw [if_neg h]
    match k, h with
    | 0, h | 1, h | 2, h | 3, h | 4, h | 5, h => exact absurd h (by decide)
    | n + 6, _ => rfl
theorem row5_new (w : World) (t : TypeId) (a0 a1 a2 a3 a4 : Int) (z : Nat → Int) (hz : z 0 = a0 ∧ z 1 = a1 ∧ z 2 = a2 ∧ z 3 = a3 ∧ z 4 = a4) (hb : ∀ k, k < 5 → -9223372036854775808 ≤ z k ∧ z k ≤ 9223372036854775807) :
    RowI (w.alloc (.cells #[.int .i64 a0, .int .i64 a1, .int .i64 a2, .int .i64 a3, .int .i64 a4] t)) (some ⟨w.heap.size, 0, none⟩) 5 z := by
  obtain ⟨rfl, rfl, rfl, rfl, rfl⟩ := hz
  intro k hk
  refine ⟨w.heap.size, 0, rfl, by simp, ?_, (hb k hk).1, (hb k hk).2⟩
  match k, hk with
  | 0, _ => simp [go_sem]
  | 1, _ => simp [go_sem]
  | 2, _ => simp [go_sem]
  | 3, _ => simp [go_sem]
  | 4, _ => simp [go_sem]
set_option maxRecDepth 100000 in
set_option maxHeartbeats 4000000 in
theorem layoutC (w : World) : Calls Try.prog 68 #[] w fun e w' => ∃ cs, e = .returned (.agg cs) ∧ Lay cs 5 shc ∧ Below w.heap.size w w' := by
  have hzero := zero70
  have hrow := row5_new (w.alloc (Obj.cells Z0 28)) 3 4 1 8 16 8 wdc ⟨rfl, rfl, rfl, rfl, rfl⟩ (fun k hk => by match k, hk with | 0, _ | 1, _ | 2, _ | 3, _ | 4, _ => decide)
  rw [World.size_alloc] at hrow
  have HROW := Lib.hid hrow
  clear hrow
  go_enter Try.func68, Try.ntmps68
  go_wp2_with fail
  refine (new_ok _ 5 5 wdc shc _ HROW.out shc_steps shc_wd).mono ?_
  rintro e w1 ⟨cs, rfl, hL, hb1⟩
  rw [shc_cut] at hL
  have hB1 : Below w.heap.size w w1 := Below.step (by go_grown) hb1
  have hz1 := hb1.size
  simp only [World.size_alloc] at hz1
  have hlt : w.heap.size < w1.heap.size := by omega
  have h0 : w1.heap[w.heap.size]? = some (.cells Z0 28 (0, 0)) := (hb1.block w.heap.size (by simp only [World.size_alloc]; omega)).trans ((Below.heap_alloc _ _ _ (by simp)).trans (heap_alloc_new w _))
  have HSZ := Lib.hid (lay_info hL)
  have HZS := Lib.hid (show Z0.size = cs.size from by rw [hL.size]; rfl)
  have HON := Lib.hid hL.one
  have g1 := heap_alloc_new w1 (Obj.cells Z0 28)
  have g2 := heap_setRow _ _ _ _ cs g1
  have g3 : ((w1.alloc (Obj.cells Z0 28)).setRow w1.heap.size cs).heap[w.heap.size]? = some (.cells Z0 28 (0, 0)) := by
    rw [World.setRow_alloc_new]
    exact (Below.heap_alloc _ _ _ hlt).trans h0
  have g4 := heap_setRow _ _ _ _ cs g3
  have HG1 := Lib.hid g1
  have HG2 := Lib.hid g2
  have HG3 := Lib.hid g3
  have HG4 := Lib.hid g4
  have HL := Lib.hid hL
  clear g1 g2 g3 g4 hL h0 hb1
  go_wp2_with (first | (refine wpList_store_row rfl 28 _ _ rfl w1.heap.size cs rfl rfl 28 Z0 HG1.out HSZ.out HZS.out HON.out ?_) | (refine wpList_load_row rfl 28 _ rfl w1.heap.size rfl 28 _ (0, 0) _ HG2.out Try.underlying28 rfl HSZ.out ?_) | (refine wpList_store_row rfl 28 _ _ rfl w.heap.size cs rfl rfl 28 Z0 HG3.out HSZ.out HZS.out HON.out ?_))
  refine bodyPost_ret (results_cell_row rfl _ _ w.heap.size 28 _ (0, 0) _ rfl HG4.out Try.underlying28 rfl HSZ.out) rfl ?_
  exact ⟨cs, rfl, HL.out, below_setRow (below_setRow (hB1.alloc hB1.size _) hB1.size _) (Nat.le_refl _) _⟩
/-- Where fields begin. -/
def shr : Nat → Int
  | 0 => 0 | 1 => 3 | 2 => 19 | 3 => 35 | 4 => 55 | 5 => 60 | 6 => 64 | _ => 0
def wdr : Nat → Int
  | 0 => 3 | 1 => 16 | 2 => 16 | 3 => 20 | 4 => 5 | 5 => 4 | _ => 0
theorem shr_steps : Steps 6 shr := ⟨rfl, by decide, fun k hk => by
  match k, hk with
  | 0, _ | 1, _ | 2, _ | 3, _ | 4, _ | 5, _ => decide⟩
theorem shr_wd : ∀ k, k < 6 → shr (k + 1) = shr k + wdr k := fun k hk => by match k, hk with | 0, _ | 1, _ | 2, _ | 3, _ | 4, _ | 5, _ => rfl
theorem shr_cut : (fun k => if k ≤ 6 then shr k else 0) = shr := by
  funext k
  by_cases h : k ≤ 6
  · rw [if_pos h]
  · rw [if_neg h]
    match k, h with
    | 0, h | 1, h | 2, h | 3, h | 4, h | 5, h | 6, h => exact absurd h (by decide)
    | n + 7, _ => rfl
theorem row6_new (w : World) (t : TypeId) (a0 a1 a2 a3 a4 a5 : Int) (z : Nat → Int) (hz : z 0 = a0 ∧ z 1 = a1 ∧ z 2 = a2 ∧ z 3 = a3 ∧ z 4 = a4 ∧ z 5 = a5) (hb : ∀ k, k < 6 → -9223372036854775808 ≤ z k ∧ z k ≤ 9223372036854775807) :
    RowI (w.alloc (.cells #[.int .i64 a0, .int .i64 a1, .int .i64 a2, .int .i64 a3, .int .i64 a4, .int .i64 a5] t)) (some ⟨w.heap.size, 0, none⟩) 6 z := by
  obtain ⟨rfl, rfl, rfl, rfl, rfl, rfl⟩ := hz
  intro k hk
  refine ⟨w.heap.size, 0, rfl, by simp, ?_, (hb k hk).1, (hb k hk).2⟩
  match k, hk with
  | 0, _ => simp [go_sem]
  | 1, _ => simp [go_sem]
  | 2, _ => simp [go_sem]
  | 3, _ => simp [go_sem]
  | 4, _ => simp [go_sem]
  | 5, _ => simp [go_sem]
set_option maxRecDepth 100000 in
set_option maxHeartbeats 4000000 in
theorem layoutR (w : World) : Calls Try.prog 74 #[] w fun e w' => ∃ cs, e = .returned (.agg cs) ∧ Lay cs 6 shr ∧ Below w.heap.size w w' := by
  have hzero := zero70
  have hrow := row6_new (w.alloc (Obj.cells Z0 28)) 3 3 16 16 20 5 4 wdr ⟨rfl, rfl, rfl, rfl, rfl, rfl⟩ (fun k hk => by match k, hk with | 0, _ | 1, _ | 2, _ | 3, _ | 4, _ | 5, _ => decide)
  rw [World.size_alloc] at hrow
  have HROW := Lib.hid hrow
  clear hrow
  go_enter Try.func74, Try.ntmps74
  go_wp2_with fail
  refine (new_ok _ 6 6 wdr shr _ HROW.out shr_steps shr_wd).mono ?_
  rintro e w1 ⟨cs, rfl, hL, hb1⟩
  rw [shr_cut] at hL
  have hB1 : Below w.heap.size w w1 := Below.step (by go_grown) hb1
  have hz1 := hb1.size
  simp only [World.size_alloc] at hz1
  have hlt : w.heap.size < w1.heap.size := by omega
  have h0 : w1.heap[w.heap.size]? = some (.cells Z0 28 (0, 0)) := (hb1.block w.heap.size (by simp only [World.size_alloc]; omega)).trans ((Below.heap_alloc _ _ _ (by simp)).trans (heap_alloc_new w _))
  have HSZ := Lib.hid (lay_info hL)
  have HZS := Lib.hid (show Z0.size = cs.size from by rw [hL.size]; rfl)
  have HON := Lib.hid hL.one
  have g1 := heap_alloc_new w1 (Obj.cells Z0 28)
  have g2 := heap_setRow _ _ _ _ cs g1
  have g3 : ((w1.alloc (Obj.cells Z0 28)).setRow w1.heap.size cs).heap[w.heap.size]? = some (.cells Z0 28 (0, 0)) := by
    rw [World.setRow_alloc_new]
    exact (Below.heap_alloc _ _ _ hlt).trans h0
  have g4 := heap_setRow _ _ _ _ cs g3
  have HG1 := Lib.hid g1
  have HG2 := Lib.hid g2
  have HG3 := Lib.hid g3
  have HG4 := Lib.hid g4
  have HL := Lib.hid hL
  clear g1 g2 g3 g4 hL h0 hb1
  go_wp2_with (first | (refine wpList_store_row rfl 28 _ _ rfl w1.heap.size cs rfl rfl 28 Z0 HG1.out HSZ.out HZS.out HON.out ?_) | (refine wpList_load_row rfl 28 _ rfl w1.heap.size rfl 28 _ (0, 0) _ HG2.out Try.underlying28 rfl HSZ.out ?_) | (refine wpList_store_row rfl 28 _ _ rfl w.heap.size cs rfl rfl 28 Z0 HG3.out HSZ.out HZS.out HON.out ?_))
  refine bodyPost_ret (results_cell_row rfl _ _ w.heap.size 28 _ (0, 0) _ rfl HG4.out Try.underlying28 rfl HSZ.out) rfl ?_
  exact ⟨cs, rfl, HL.out, below_setRow (below_setRow (hB1.alloc hB1.size _) hB1.size _) (Nat.le_refl _) _⟩
end Go.Proofs.Ytgeognijglahfaa

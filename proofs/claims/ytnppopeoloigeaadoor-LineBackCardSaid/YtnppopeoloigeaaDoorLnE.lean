/-
  What a word says where a number, or a side, stands.
-/
import Derived.Test.YtnppopeoloigeaaDoorRows
import Derived.Test.YtnppopeoloigeaaDoorKit
import Derived.Test.YtnppopeoloigeaaDoorApp
import Derived.Test.YtnppopeoloigeaaDoorQuiet
import Derived.WalkKit
import Derived.ProofKit
import Derived.OpenShut
import Derived.ShutString
import Derived.Below
import Derived.Outline
import Derived.WalkLawsBesides
import Derived.WalkSpells
import Derived.Handy
import Derived.Deep.QuietTactic
import Derived.BigQuiet
import Derived.RegionTactic
import Derived.ChangeAlike
import Derived.Lib.Hide
import Derived.Laws.Rows
import Derived.Laws.Tables
import Derived.Laws.CopyOwn
import Derived.Laws.MakeOwn
import Derived.Laws.Entries
import Derived.Laws.OwnMore
import Derived.Deep.WholeRow
import Derived.Deep.LoopGhost
import Derived.Deep.AppendLies
import Derived.Deep.Draws
import Derived.Maps.AppendAt
import Derived.OwnWalk
import Derived.Deep.RegionHeld3
import Derived.Deep.Cut
import Derived.Deep.CutRange
import Derived.Deep.DeepCutAuto
import Derived.Deep.CutBlock
import Derived.Lib.SliceRun
import Derived.IntWalk
import Derived.Laws.Strings
import Derived.Test.YtnppopeoloigeaaDoorLnD
namespace Go.Proofs.YtnppopeoloigeaaDoor
open Go.ChangeShapes Go.WideShapes Go.ChangeAt Go.RowKit
/-- What a word says where a number, or a side, stands: which code (0: none), which number. -/
def rdv (side : Bool) (s : ByteArray) : Int × Int :=
  if side = true then (if (sd 0).toList == s.toList then (0, 0) else if (sd 1).toList == s.toList then (0, 1) else (10, 0))
  else if digs s.data.toList = true then (0, (nv s.data.toList : Int)) else (13, 0)
/-- An error by its code; 0: none. -/
def ev (c : Int) : Value := if c = 0 then .nilIface else .iface 51 (.int .i64 c)
set_option maxRecDepth 100000 in
set_option maxHeartbeats 1000000 in
theorem read_num (p : Option Addr) (s : ByteArray) (hs : s.size ≤ 1000) (w : World) : Calls Tryd.prog 24 #[.agg #[.pointer p, .bool false], .string s] w fun e w' => e = .returned (.tuple #[.int .i64 (rdv false s).2, ev (rdv false s).1]) ∧ Below w.heap.size w w' := by
  have hD := Lib.hid (fun W => digits_is s hs W)
  rcases hd : digs s.data.toList with _ | _
  · have hr : rdv false s = (13, 0) := by unfold rdv; rw [hd]; rfl
    have HR := Lib.hid hr
    rw [hd] at hD
    clear hr hd hs
    go_enter Tryd.func24, Tryd.ntmps24
    go_wp2_with fail
    refine (hD.out _).mono ?_
    rintro e w' ⟨rfl, rfl⟩
    go_wp2_with fail
    go_ret2
    exact ⟨by rw [HR.out]; rfl, by go_grown⟩
  · have hr : rdv false s = (0, (nv s.data.toList : Int)) := by unfold rdv; rw [hd]; rfl
    have HR := Lib.hid hr
    have hA := Lib.hid (fun W => ato_is s hd W)
    rw [hd] at hD
    clear hr hd hs
    go_enter Tryd.func24, Tryd.ntmps24
    go_wp2_with fail
    refine (hD.out _).mono ?_
    rintro e w1 ⟨rfl, rfl⟩
    go_wp2_with fail
    refine (hA.out _).mono ?_
    rintro e w2 ⟨rfl, hb⟩
    have g0 : Below w.heap.size w (w.alloc (.cells (List.toArray [.pointer p, .bool false]) 62)) := by go_grown
    have HB := Lib.hid (Below.step g0 hb)
    clear hb g0
    go_wp2_with fail
    go_ret2
    exact ⟨by rw [HR.out]; rfl, HB.out⟩
set_option maxRecDepth 100000 in
set_option maxHeartbeats 1000000 in
theorem read_side (p : Option Addr) (s : ByteArray) (w : World) : Calls Tryd.prog 24 #[.agg #[.pointer p, .bool true], .string s] w fun e w' => e = .returned (.tuple #[.int .i64 (rdv true s).2, ev (rdv true s).1]) ∧ Below w.heap.size w w' := by
  have hN := Lib.hid (fun x W => name_is x W)
  have g0 : Below w.heap.size w ((w.alloc (.cells (List.toArray [.pointer p, .bool true]) 62)).alloc (.cells (List.toArray [.int .i64 0, .int .i64 1]) 3)) := by go_grown
  have c0 : ((w.alloc (.cells (List.toArray [.pointer p, .bool true]) 62)).alloc (.cells (List.toArray [.int .i64 0, .int .i64 1]) 3)).cell? ⟨w.heap.size + 1, 0, none⟩ = some (.int .i64 0) := by
    rw [World.cell?_alloc_at _ _ _ _ (by rw [World.size_alloc])]; rfl
  have c1 : ((w.alloc (.cells (List.toArray [.pointer p, .bool true]) 62)).alloc (.cells (List.toArray [.int .i64 0, .int .i64 1]) 3)).cell? ⟨w.heap.size + 1, 1, none⟩ = some (.int .i64 1) := by
    rw [World.cell?_alloc_at _ _ _ _ (by rw [World.size_alloc])]; rfl
  obtain ⟨W1, hW1⟩ : ∃ W1, W1 = (w.alloc (.cells (List.toArray [.pointer p, .bool true]) 62)).alloc (.cells (List.toArray [.int .i64 0, .int .i64 1]) 3) := ⟨_, rfl⟩
  rw [← hW1] at c0 c1 g0
  have HW := Lib.hid hW1
  have HG := Lib.hid g0
  clear hW1 g0
  go_enter Tryd.func24, Tryd.ntmps24
  go_wp2_with fail
  rw [← HW.out]
  rcases h0 : ((sd 0).toList == s.toList) with _ | _
  rotate_left
  · have hr : rdv true s = (0, 0) := by unfold rdv; rw [h0]; rfl
    have HR := Lib.hid hr
    clear hr
    refine wp_loop_rounds 1 ?_
    rw [rounds_succ]
    go_wp2_with fail
    refine (hN.out 0 _).mono ?_
    rintro e w1 ⟨rfl, rfl⟩
    go_wp2_with fail
    go_ret2
    exact ⟨by rw [HR.out]; rfl, HG.out⟩
  rcases h1 : ((sd 1).toList == s.toList) with _ | _
  rotate_left
  · have hr : rdv true s = (0, 1) := by unfold rdv; rw [h0, h1]; rfl
    have HR := Lib.hid hr
    clear hr
    refine wp_loop_rounds 2 ?_
    rw [rounds_succ]
    go_wp2_with fail
    refine (hN.out 0 _).mono ?_
    rintro e w1 ⟨rfl, rfl⟩
    go_wp2_with fail
    rw [rounds_succ]
    go_wp2_with fail
    refine (hN.out 1 _).mono ?_
    rintro e w1 ⟨rfl, rfl⟩
    go_wp2_with fail
    go_ret2
    exact ⟨by rw [HR.out]; rfl, HG.out⟩
  · have hr : rdv true s = (10, 0) := by unfold rdv; rw [h0, h1]; rfl
    have HR := Lib.hid hr
    clear hr
    refine wp_loop_rounds 3 ?_
    rw [rounds_succ]
    go_wp2_with fail
    refine (hN.out 0 _).mono ?_
    rintro e w1 ⟨rfl, rfl⟩
    go_wp2_with fail
    rw [rounds_succ]
    go_wp2_with fail
    refine (hN.out 1 _).mono ?_
    rintro e w1 ⟨rfl, rfl⟩
    go_wp2_with fail
    rw [rounds_succ]
    go_wp2_with fail
    go_ret2
    exact ⟨by rw [HR.out]; rfl, HG.out⟩
end Go.Proofs.YtnppopeoloigeaaDoor

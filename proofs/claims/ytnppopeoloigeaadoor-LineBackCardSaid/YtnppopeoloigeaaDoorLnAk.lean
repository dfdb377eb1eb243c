/-
  What is asked, as a law's parameter.
-/
import Derived.Test.YtnppopeoloigeaaDoorRows
import Derived.Test.YtnppopeoloigeaaDoorKit
import Derived.Test.YtnppopeoloigeaaDoorApp
import Derived.Test.YtnppopeoloigeaaDoorQuiet
import Derived.WalkKit
import Derived.ProofKit
import Derived.OpenShut
import Derived.ShutString
import Derived.Below
import Derived.Outline
import Derived.WalkLawsBesides
import Derived.WalkSpells
import Derived.Handy
import Derived.Deep.QuietTactic
import Derived.BigQuiet
import Derived.RegionTactic
import Derived.ChangeAlike
import Derived.Lib.Hide
import Derived.Laws.Rows
import Derived.Laws.Tables
import Derived.Laws.CopyOwn
import Derived.Laws.MakeOwn
import Derived.Laws.Entries
import Derived.Laws.OwnMore
import Derived.Deep.WholeRow
import Derived.Deep.LoopGhost
import Derived.Deep.AppendLies
import Derived.Deep.Draws
import Derived.Maps.AppendAt
import Derived.OwnWalk
import Derived.Deep.RegionHeld3
import Derived.Deep.Cut
import Derived.Deep.CutRange
import Derived.Deep.DeepCutAuto
import Derived.Deep.CutBlock
import Derived.Lib.SliceRun
import Derived.IntWalk
import Derived.Laws.Strings
import Derived.Lib.Bytealg
import Derived.Lib.Strings
import Derived.Laws.Externs
import Derived.Deep.Slices
import Derived.Deep.Fields
import Derived.ChangeSame
import Derived.ChangeArms
namespace Go.Proofs.YtnppopeoloigeaaDoor
open Go.ChangeShapes Go.WideShapes Go.ChangeAt Go.RowKit
section
open Go.Deep
theorem cellsA : Tryd.prog.cellsOf 31 = 9 := by kernel_rfl
theorem cellsT : Tryd.prog.cellsOf 24 = 5 := by kernel_rfl
theorem cells3 : Tryd.prog.cellsOf 3 = 1 := by kernel_rfl
theorem list9 {α : Type} {l : List α} (h : l.length = 9) : ∃ c0 c1 c2 c3 c4 c5 c6 c7 c8, l = [c0, c1, c2, c3, c4, c5, c6, c7, c8] := by
  match l, h with
  | [c0, c1, c2, c3, c4, c5, c6, c7, c8], _ => exact ⟨c0, c1, c2, c3, c4, c5, c6, c7, c8, rfl⟩
theorem list5b {α : Type} {l : List α} (h : l.length = 5) : ∃ c0 c1 c2 c3 c4, l = [c0, c1, c2, c3, c4] := by
  match l, h with
  | [c0, c1, c2, c3, c4], _ => exact ⟨c0, c1, c2, c3, c4, rfl⟩
theorem cell_lt' {w : World} {a : Addr} {v : Value} (h : w.cell? a = some v) : a.block < w.heap.size := by
  rcases Nat.lt_or_ge a.block w.heap.size with hlt | hge
  · exact hlt
  · have e : w.heap[a.block]? = none := Array.getElem?_eq_none hge
    simp [World.cell?, e] at h
section
variable {H : Type} {enc : TypeId × Value → H} {w : World} {base : Nat} {spare : Nat → Bool} {held : Bool}
theorem get_some {α : Type} {xs : List α} {i : Nat} (h : i < xs.length) : xs[i]? = some (xs[i]'h) := List.getElem?_eq_getElem h
set_option maxRecDepth 100000 in
set_option maxHeartbeats 4000000 in
theorem ask_of {fuel : Nat} {cs : List Value} {x : DataW H × List MemPlace} (h : DataW.trod enc Tryd.prog w base spare held fuel 31 cs = some x) : ∃ c0 c1 c2 c3 c4 c5 c6 c7 c8 : Int, cs = [.int .i64 c0, .int .i64 c1, .int .i64 c2, .int .i64 c3, .int .i64 c4, .int .i64 c5, .int .i64 c6, .int .i64 c7, .int .i64 c8] := by
  obtain ⟨xs, n, _, _, hl, hxl, hf⟩ := DataW.trod_struct Tryd.underlying31 h
  rw [cellsA] at hl
  obtain ⟨c0, c1, c2, c3, c4, c5, c6, c7, c8, rfl⟩ := list9 hl
  have hx : xs.length = 5 := hxl
  have f0 := (hf 0 _ rfl).trans (get_some (show 0 < xs.length from by omega))
  change DataW.trod enc Tryd.prog w base spare held n 3 (List.take (Tryd.prog.cellsOf 3) (List.drop 0 [c0, c1, c2, c3, c4, c5, c6, c7, c8])) = _ at f0
  simp only [cells3, List.drop, List.take] at f0
  have f1 := (hf 1 _ rfl).trans (get_some (show 1 < xs.length from by omega))
  change DataW.trod enc Tryd.prog w base spare held n 3 (List.take (Tryd.prog.cellsOf 3) (List.drop 1 [c0, c1, c2, c3, c4, c5, c6, c7, c8])) = _ at f1
  simp only [cells3, List.drop, List.take] at f1
  have f2 := (hf 2 _ rfl).trans (get_some (show 2 < xs.length from by omega))
  change DataW.trod enc Tryd.prog w base spare held n 3 (List.take (Tryd.prog.cellsOf 3) (List.drop 2 [c0, c1, c2, c3, c4, c5, c6, c7, c8])) = _ at f2
  simp only [cells3, List.drop, List.take] at f2
  have f3 := (hf 3 _ rfl).trans (get_some (show 3 < xs.length from by omega))
  change DataW.trod enc Tryd.prog w base spare held n 24 (List.take (Tryd.prog.cellsOf 24) (List.drop 3 [c0, c1, c2, c3, c4, c5, c6, c7, c8])) = _ at f3
  simp only [cellsT, List.drop, List.take] at f3
  have f4 := (hf 4 _ rfl).trans (get_some (show 4 < xs.length from by omega))
  change DataW.trod enc Tryd.prog w base spare held n 3 (List.take (Tryd.prog.cellsOf 3) (List.drop 8 [c0, c1, c2, c3, c4, c5, c6, c7, c8])) = _ at f4
  simp only [cells3, List.drop, List.take] at f4
  obtain ⟨ys, m, _, _, hl5, hyl, hg⟩ := DataW.trod_struct Tryd.underlying24 f3
  have hy : ys.length = 5 := hyl
  have g0 := (hg 0 _ rfl).trans (get_some (show 0 < ys.length from by omega))
  change DataW.trod enc Tryd.prog w base spare held m 3 (List.take (Tryd.prog.cellsOf 3) (List.drop 0 [c3, c4, c5, c6, c7])) = _ at g0
  simp only [cells3, List.drop, List.take] at g0
  have g1 := (hg 1 _ rfl).trans (get_some (show 1 < ys.length from by omega))
  change DataW.trod enc Tryd.prog w base spare held m 3 (List.take (Tryd.prog.cellsOf 3) (List.drop 1 [c3, c4, c5, c6, c7])) = _ at g1
  simp only [cells3, List.drop, List.take] at g1
  have g2 := (hg 2 _ rfl).trans (get_some (show 2 < ys.length from by omega))
  change DataW.trod enc Tryd.prog w base spare held m 3 (List.take (Tryd.prog.cellsOf 3) (List.drop 2 [c3, c4, c5, c6, c7])) = _ at g2
  simp only [cells3, List.drop, List.take] at g2
  have g3 := (hg 3 _ rfl).trans (get_some (show 3 < ys.length from by omega))
  change DataW.trod enc Tryd.prog w base spare held m 3 (List.take (Tryd.prog.cellsOf 3) (List.drop 3 [c3, c4, c5, c6, c7])) = _ at g3
  simp only [cells3, List.drop, List.take] at g3
  have g4 := (hg 4 _ rfl).trans (get_some (show 4 < ys.length from by omega))
  change DataW.trod enc Tryd.prog w base spare held m 3 (List.take (Tryd.prog.cellsOf 3) (List.drop 4 [c3, c4, c5, c6, c7])) = _ at g4
  simp only [cells3, List.drop, List.take] at g4
  obtain ⟨z0, rfl, _⟩ := field_int Tryd.underlying3 ⟨_, _, f0⟩
  obtain ⟨z1, rfl, _⟩ := field_int Tryd.underlying3 ⟨_, _, f1⟩
  obtain ⟨z2, rfl, _⟩ := field_int Tryd.underlying3 ⟨_, _, f2⟩
  obtain ⟨z8, rfl, _⟩ := field_int Tryd.underlying3 ⟨_, _, f4⟩
  obtain ⟨z3, rfl, _⟩ := field_int Tryd.underlying3 ⟨_, _, g0⟩
  obtain ⟨z4, rfl, _⟩ := field_int Tryd.underlying3 ⟨_, _, g1⟩
  obtain ⟨z5, rfl, _⟩ := field_int Tryd.underlying3 ⟨_, _, g2⟩
  obtain ⟨z6, rfl, _⟩ := field_int Tryd.underlying3 ⟨_, _, g3⟩
  obtain ⟨z7, rfl, _⟩ := field_int Tryd.underlying3 ⟨_, _, g4⟩
  exact ⟨z0, z1, z2, z3, z4, z5, z6, z7, z8, rfl⟩
set_option maxRecDepth 100000 in
theorem open_ask {r : Reach} {b0 : Nat} {v : Value} {d : DataW H} {p : List MemPlace}
    (hv : Value.okWide Tryd.prog w r b0 31 v) (h : DataW.Trod enc Tryd.prog w base spare held 31 v d p) :
    ∃ c0 c1 c2 c3 c4 c5 c6 c7 c8 : Int, v = .agg (List.toArray [.int .i64 c0, .int .i64 c1, .int .i64 c2, .int .i64 c3, .int .i64 c4, .int .i64 c5, .int .i64 c6, .int .i64 c7, .int .i64 c8]) := by
  obtain ⟨cs, rfl, _⟩ := okWide_struct Tryd.underlying31 hv
  obtain ⟨fuel, hf⟩ := h
  obtain ⟨c0, c1, c2, c3, c4, c5, c6, c7, c8, he⟩ := ask_of hf
  refine ⟨c0, c1, c2, c3, c4, c5, c6, c7, c8, ?_⟩
  obtain ⟨l⟩ := cs
  simp only [Value.cells] at he
  subst he
  rfl
end
end

end Go.Proofs.YtnppopeoloigeaaDoor

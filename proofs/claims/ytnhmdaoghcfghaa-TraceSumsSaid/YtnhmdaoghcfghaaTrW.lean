/-
  Events as a law's parameters, opened to their cells.
-/
import Derived.Test.YtnhmdaoghcfghaaRows
import Derived.Test.YtnhmdaoghcfghaaKit
import Derived.Test.YtnhmdaoghcfghaaApp
import Derived.Test.YtnhmdaoghcfghaaQuiet
import Derived.Test.YtnhmdaoghcfghaaTrM
import Derived.Test.YtnhmdaoghcfghaaTrS
import Derived.Test.YtnhmdaoghcfghaaTrF
import Derived.Test.YtnhmdaoghcfghaaTrG
import Derived.Test.YtnhmdaoghcfghaaTrH
import Derived.Test.YtnhmdaoghcfghaaTrI
import Derived.Test.YtnhmdaoghcfghaaTrJ
import Derived.Test.YtnhmdaoghcfghaaTrK
import Derived.Test.YtnhmdaoghcfghaaTrL
import Derived.Test.YtnhmdaoghcfghaaTrN
import Derived.Test.YtnhmdaoghcfghaaTrO
import Derived.Test.YtnhmdaoghcfghaaRules
import Derived.Test.YtnhmdaoghcfghaaTrP
import Derived.Test.YtnhmdaoghcfghaaTrQ
import Derived.Test.YtnhmdaoghcfghaaTrR
import Derived.Test.YtnhmdaoghcfghaaTrT
import Derived.Test.YtnhmdaoghcfghaaTrU
import Derived.WalkKit
import Derived.ProofKit
import Derived.OpenShut
import Derived.ShutString
import Derived.Below
import Derived.Outline
import Derived.WalkLawsBesides
import Derived.WalkSpells
import Derived.Handy
import Derived.Deep.QuietTactic
import Derived.BigQuiet
import Derived.RegionTactic
import Derived.ChangeAlike
import Derived.Lib.Hide
import Derived.Laws.Rows
import Derived.Laws.Tables
import Derived.Laws.CopyOwn
import Derived.Laws.MakeOwn
import Derived.Laws.Entries
import Derived.Laws.OwnMore
import Derived.Deep.WholeRow
import Derived.Deep.LoopGhost
import Derived.Deep.AppendLies
import Derived.Deep.Draws
import Derived.Maps.AppendAt
import Derived.OwnWalk
import Derived.Deep.RegionHeld3
import Derived.Deep.Cut
import Derived.Deep.CutRange
import Derived.Deep.DeepCutAuto
import Derived.Deep.CutBlock
import Derived.Lib.SliceRun
import Derived.IntWalk
import Derived.OpenShut
import Derived.Deep.Slices
import Derived.Deep.Fields
import Derived.ChangeSame
import Derived.ChangeArms
namespace Go.Proofs.Ytnhmdaoghcfghaa
open Go.ChangeShapes Go.WideShapes Go.ChangeAt Go.RowKit
section
open Go.Deep
def ec (e : Evt) : List Value := [.int .i64 e.k, .int .i64 e.c, .int .i64 e.g, .int .i64 e.o, .int .i64 e.w, .int .i64 e.n, .int .i64 e.s, .int .i64 e.p, .int .i64 e.l, .int .i64 e.u, .int .i64 e.q, .int .i64 e.pr, .int .i64 e.t, .int .i64 e.en]
def EvsAt (A : Option Addr) (len : Nat) (g : Nat → Evt) (w : World) : Prop := 0 < len → ∃ ad, A = some ad ∧ ad.block < w.heap.size ∧ ∀ i, i < len → ∀ (j : Nat) (u : Value), (ec (g i))[j]? = some u → w.cell? (ad.add (i * 14 + j)) = some u
theorem EvsAt.below {A : Option Addr} {len : Nat} {g : Nat → Evt} {w w' : World} (h : EvsAt A len g w) (hb : Below w.heap.size w w') : EvsAt A len g w' := fun h0 => by
  obtain ⟨ad, e, hl, hc⟩ := h h0
  refine ⟨ad, e, by have := hb.size; omega, fun i hi j u hu => ?_⟩
  have hlt : (ad.add (i * 14 + j)).block < w.heap.size := by rw [block_of_add]; exact hl
  rw [hb.cell hlt]
  exact hc i hi j u hu
theorem cells39 : Try.prog.cellsOf 39 = 14 := by kernel_rfl
theorem cells37 : Try.prog.cellsOf 37 = 5 := by kernel_rfl
theorem cells3 : Try.prog.cellsOf 3 = 1 := by kernel_rfl
theorem list14 {α : Type} {l : List α} (h : l.length = 14) : ∃ c0 c1 c2 c3 c4 c5 c6 c7 c8 c9 c10 c11 c12 c13, l = [c0, c1, c2, c3, c4, c5, c6, c7, c8, c9, c10, c11, c12, c13] := by
  match l, h with
  | [c0, c1, c2, c3, c4, c5, c6, c7, c8, c9, c10, c11, c12, c13], _ => exact ⟨c0, c1, c2, c3, c4, c5, c6, c7, c8, c9, c10, c11, c12, c13, rfl⟩
theorem cell_lt {w : World} {a : Addr} {v : Value} (h : w.cell? a = some v) : a.block < w.heap.size := by
  rcases Nat.lt_or_ge a.block w.heap.size with hlt | hge
  · exact hlt
  · have e : w.heap[a.block]? = none := Array.getElem?_eq_none hge
    simp [World.cell?, e] at h
section
variable {H : Type} {enc : TypeId × Value → H} {w : World} {base : Nat} {spare : Nat → Bool} {held : Bool}
theorem get_some {α : Type} {xs : List α} {i : Nat} (h : i < xs.length) : xs[i]? = some (xs[i]'h) := List.getElem?_eq_getElem h
set_option maxRecDepth 100000 in
set_option maxHeartbeats 4000000 in
theorem evt_of {fuel : Nat} {cs : List Value} {x : DataW H × List MemPlace} (h : DataW.trod enc Try.prog w base spare held fuel 39 cs = some x) : ∃ e : Evt, cs = ec e := by
  obtain ⟨xs, n, _, _, hl, hxl, hf⟩ := DataW.trod_struct Try.underlying39 h
  rw [cells39] at hl
  obtain ⟨c0, c1, c2, c3, c4, c5, c6, c7, c8, c9, c10, c11, c12, c13, rfl⟩ := list14 hl
  have hx : xs.length = 10 := hxl
  have f0 := (hf 0 _ rfl).trans (get_some (show 0 < xs.length from by omega))
  change DataW.trod enc Try.prog w base spare held n 3 (List.take (Try.prog.cellsOf 3) (List.drop 0 [c0, c1, c2, c3, c4, c5, c6, c7, c8, c9, c10, c11, c12, c13])) = _ at f0
  simp only [cells3, List.drop, List.take] at f0
  have f1 := (hf 1 _ rfl).trans (get_some (show 1 < xs.length from by omega))
  change DataW.trod enc Try.prog w base spare held n 3 (List.take (Try.prog.cellsOf 3) (List.drop 1 [c0, c1, c2, c3, c4, c5, c6, c7, c8, c9, c10, c11, c12, c13])) = _ at f1
  simp only [cells3, List.drop, List.take] at f1
  have f2 := (hf 2 _ rfl).trans (get_some (show 2 < xs.length from by omega))
  change DataW.trod enc Try.prog w base spare held n 3 (List.take (Try.prog.cellsOf 3) (List.drop 2 [c0, c1, c2, c3, c4, c5, c6, c7, c8, c9, c10, c11, c12, c13])) = _ at f2
  simp only [cells3, List.drop, List.take] at f2
  have f3 := (hf 3 _ rfl).trans (get_some (show 3 < xs.length from by omega))
  change DataW.trod enc Try.prog w base spare held n 3 (List.take (Try.prog.cellsOf 3) (List.drop 3 [c0, c1, c2, c3, c4, c5, c6, c7, c8, c9, c10, c11, c12, c13])) = _ at f3
  simp only [cells3, List.drop, List.take] at f3
  have f4 := (hf 4 _ rfl).trans (get_some (show 4 < xs.length from by omega))
  change DataW.trod enc Try.prog w base spare held n 3 (List.take (Try.prog.cellsOf 3) (List.drop 4 [c0, c1, c2, c3, c4, c5, c6, c7, c8, c9, c10, c11, c12, c13])) = _ at f4
  simp only [cells3, List.drop, List.take] at f4
  have f5 := (hf 5 _ rfl).trans (get_some (show 5 < xs.length from by omega))
  change DataW.trod enc Try.prog w base spare held n 37 (List.take (Try.prog.cellsOf 37) (List.drop 5 [c0, c1, c2, c3, c4, c5, c6, c7, c8, c9, c10, c11, c12, c13])) = _ at f5
  simp only [cells37, List.drop, List.take] at f5
  have f6 := (hf 6 _ rfl).trans (get_some (show 6 < xs.length from by omega))
  change DataW.trod enc Try.prog w base spare held n 3 (List.take (Try.prog.cellsOf 3) (List.drop 10 [c0, c1, c2, c3, c4, c5, c6, c7, c8, c9, c10, c11, c12, c13])) = _ at f6
  simp only [cells3, List.drop, List.take] at f6
  have f7 := (hf 7 _ rfl).trans (get_some (show 7 < xs.length from by omega))
  change DataW.trod enc Try.prog w base spare held n 3 (List.take (Try.prog.cellsOf 3) (List.drop 11 [c0, c1, c2, c3, c4, c5, c6, c7, c8, c9, c10, c11, c12, c13])) = _ at f7
  simp only [cells3, List.drop, List.take] at f7
  have f8 := (hf 8 _ rfl).trans (get_some (show 8 < xs.length from by omega))
  change DataW.trod enc Try.prog w base spare held n 3 (List.take (Try.prog.cellsOf 3) (List.drop 12 [c0, c1, c2, c3, c4, c5, c6, c7, c8, c9, c10, c11, c12, c13])) = _ at f8
  simp only [cells3, List.drop, List.take] at f8
  have f9 := (hf 9 _ rfl).trans (get_some (show 9 < xs.length from by omega))
  change DataW.trod enc Try.prog w base spare held n 3 (List.take (Try.prog.cellsOf 3) (List.drop 13 [c0, c1, c2, c3, c4, c5, c6, c7, c8, c9, c10, c11, c12, c13])) = _ at f9
  simp only [cells3, List.drop, List.take] at f9
  obtain ⟨ys, m, _, _, hl5, hyl, hg⟩ := DataW.trod_struct Try.underlying37 f5
  have hy : ys.length = 5 := hyl
  have g0 := (hg 0 _ rfl).trans (get_some (show 0 < ys.length from by omega))
  change DataW.trod enc Try.prog w base spare held m 3 (List.take (Try.prog.cellsOf 3) (List.drop 0 [c5, c6, c7, c8, c9])) = _ at g0
  simp only [cells3, List.drop, List.take] at g0
  have g1 := (hg 1 _ rfl).trans (get_some (show 1 < ys.length from by omega))
  change DataW.trod enc Try.prog w base spare held m 3 (List.take (Try.prog.cellsOf 3) (List.drop 1 [c5, c6, c7, c8, c9])) = _ at g1
  simp only [cells3, List.drop, List.take] at g1
  have g2 := (hg 2 _ rfl).trans (get_some (show 2 < ys.length from by omega))
  change DataW.trod enc Try.prog w base spare held m 3 (List.take (Try.prog.cellsOf 3) (List.drop 2 [c5, c6, c7, c8, c9])) = _ at g2
  simp only [cells3, List.drop, List.take] at g2
  have g3 := (hg 3 _ rfl).trans (get_some (show 3 < ys.length from by omega))
  change DataW.trod enc Try.prog w base spare held m 3 (List.take (Try.prog.cellsOf 3) (List.drop 3 [c5, c6, c7, c8, c9])) = _ at g3
  simp only [cells3, List.drop, List.take] at g3
  have g4 := (hg 4 _ rfl).trans (get_some (show 4 < ys.length from by omega))
  change DataW.trod enc Try.prog w base spare held m 3 (List.take (Try.prog.cellsOf 3) (List.drop 4 [c5, c6, c7, c8, c9])) = _ at g4
  simp only [cells3, List.drop, List.take] at g4
  obtain ⟨z0, rfl, _⟩ := field_int Try.underlying3 ⟨_, _, f0⟩
  obtain ⟨z1, rfl, _⟩ := field_int Try.underlying3 ⟨_, _, f1⟩
  obtain ⟨z2, rfl, _⟩ := field_int Try.underlying3 ⟨_, _, f2⟩
  obtain ⟨z3, rfl, _⟩ := field_int Try.underlying3 ⟨_, _, f3⟩
  obtain ⟨z4, rfl, _⟩ := field_int Try.underlying3 ⟨_, _, f4⟩
  obtain ⟨z10, rfl, _⟩ := field_int Try.underlying3 ⟨_, _, f6⟩
  obtain ⟨z11, rfl, _⟩ := field_int Try.underlying3 ⟨_, _, f7⟩
  obtain ⟨z12, rfl, _⟩ := field_int Try.underlying3 ⟨_, _, f8⟩
  obtain ⟨z13, rfl, _⟩ := field_int Try.underlying3 ⟨_, _, f9⟩
  obtain ⟨z5, rfl, _⟩ := field_int Try.underlying3 ⟨_, _, g0⟩
  obtain ⟨z6, rfl, _⟩ := field_int Try.underlying3 ⟨_, _, g1⟩
  obtain ⟨z7, rfl, _⟩ := field_int Try.underlying3 ⟨_, _, g2⟩
  obtain ⟨z8, rfl, _⟩ := field_int Try.underlying3 ⟨_, _, g3⟩
  obtain ⟨z9, rfl, _⟩ := field_int Try.underlying3 ⟨_, _, g4⟩
  exact ⟨⟨z0, z1, z2, z3, z4, z5, z6, z7, z8, z9, z10, z11, z12, z13⟩, rfl⟩
set_option maxRecDepth 100000 in
theorem open_evt {r : Reach} {b0 : Nat} {v : Value} {d : DataW H} {p : List MemPlace}
    (hv : Value.okWide Try.prog w r b0 39 v) (h : DataW.Trod enc Try.prog w base spare held 39 v d p) :
    ∃ e : Evt, v = .agg #[.int .i64 e.k, .int .i64 e.c, .int .i64 e.g, .int .i64 e.o, .int .i64 e.w, .int .i64 e.n, .int .i64 e.s, .int .i64 e.p, .int .i64 e.l, .int .i64 e.u, .int .i64 e.q, .int .i64 e.pr, .int .i64 e.t, .int .i64 e.en] := by
  obtain ⟨cs, rfl, _⟩ := okWide_struct Try.underlying39 hv
  obtain ⟨fuel, hf⟩ := h
  obtain ⟨e, he⟩ := evt_of hf
  refine ⟨e, ?_⟩
  obtain ⟨l⟩ := cs
  simp only [Value.cells] at he
  subst he
  rfl
set_option maxRecDepth 100000 in
theorem open_evts {r : Reach} {b0 : Nat} {v : Value} {d : DataW H} {p : List MemPlace}
    (hv : Value.okWide Try.prog w r b0 24 v) (h : DataW.Trod enc Try.prog w base (fun _ => true) held 24 v d p) :
    ∃ (a : Option Addr) (len cap : Nat) (g : Nat → Evt), v = .slice a len cap ∧ EvsAt a len g w := by
  obtain ⟨a, len, cap, rfl⟩ := okWide_slice Try.underlying24 hv
  obtain ⟨fuel, hf⟩ := h
  rcases open_slice Try.underlying24 hf with ⟨hcs, _⟩ | ⟨x, l, c, m, n, D, Pl, hcs, _, hl, hm, hmm, _, hi⟩
  · simp [Value.cells] at hcs
    obtain ⟨rfl, rfl, rfl⟩ := hcs
    exact ⟨_, _, _, fun _ => ⟨0, 0, 0, 0, 0, 0, 0, 0, 0, 0, 0, 0, 0, 0⟩, rfl, fun h => absurd h (by omega)⟩
  · simp [Value.cells] at hcs
    obtain ⟨rfl, rfl, rfl⟩ := hcs
    have hmc : m = cap := by rw [hmm]; exact if_pos rfl
    have key : ∀ i, i < len → ∃ e : Evt, ∀ (j : Nat) (u : Value), (ec e)[j]? = some u → w.cell? (x.add (i * 14 + j)) = some u := by
      intro i hil
      obtain ⟨cs', hc, ht'⟩ := hi i (by omega)
      rw [cells39] at hc
      obtain ⟨e, rfl⟩ := evt_of ht'
      obtain ⟨_, hcl, hat⟩ := World.cells?_some hc
      refine ⟨e, fun j u hu => ?_⟩
      have hj : j < 14 := by
        have := (List.getElem?_eq_some_iff.1 hu).1
        exact this
      rw [← Go.Deep.add_add, hat j hj]
      exact hu
    refine ⟨some x, len, cap, fun i => if hil : i < len then Classical.choose (key i hil) else ⟨0, 0, 0, 0, 0, 0, 0, 0, 0, 0, 0, 0, 0, 0⟩, rfl, fun h0 => ⟨x, rfl, ?_, fun i hil => ?_⟩⟩
    · obtain ⟨e, hc⟩ := key 0 h0
      have := cell_lt (hc 0 _ rfl)
      rw [block_of_add] at this
      exact this
    · simp only [dif_pos hil]
      exact Classical.choose_spec (key i hil)
end
end
end Go.Proofs.Ytnhmdaoghcfghaa

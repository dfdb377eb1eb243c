/-
  Events as a law's parameters.
-/
import Derived.Test.YtfdjbhlpkfbgnaaRows
import Derived.Test.YtfdjbhlpkfbgnaaKit
import Derived.Test.YtfdjbhlpkfbgnaaApp
import Derived.Test.YtfdjbhlpkfbgnaaShM
import Derived.WalkKit
import Derived.ProofKit
import Derived.OpenShut
import Derived.ShutString
import Derived.Below
import Derived.Outline
import Derived.WalkLawsBesides
import Derived.WalkSpells
import Derived.Handy
import Derived.Lib.Hide
import Derived.Laws.Rows
import Derived.Laws.Tables
import Derived.Laws.CopyOwn
import Derived.Laws.MakeOwn
import Derived.Laws.Entries
import Derived.Laws.OwnMore
import Derived.Deep.WholeRow
import Derived.Deep.Slices
import Derived.Deep.Fields
import Derived.ChangeSame
import Derived.ChangeArms
import Derived.IntWalk
import Derived.Lib.SliceRun
namespace Go.Proofs.Ytfdjbhlpkfbgnaa
open Go.ChangeShapes Go.WideShapes Go.ChangeAt Go.RowKit
section
open Go.Deep
/-- A row of events that can be read, wherever. -/
def EvnAt (A : Option Addr) (len : Nat) (g : Nat → Evn) (w : World) : Prop := 0 < len → ∃ ad, A = some ad ∧ ad.block < w.heap.size ∧ ∀ i, i < len → ∀ (j : Nat) (u : Value), (nc (g i))[j]? = some u → w.cell? (ad.add (i * 12 + j)) = some u
theorem EvnAt.below {A : Option Addr} {len : Nat} {g : Nat → Evn} {w w' : World} (h : EvnAt A len g w) (hb : Below w.heap.size w w') : EvnAt A len g w' := fun h0 => by
  obtain ⟨ad, e, hl, hc⟩ := h h0
  refine ⟨ad, e, by have := hb.size; omega, fun i hi j u hu => ?_⟩
  have hlt : (ad.add (i * 12 + j)).block < w.heap.size := by rw [block_of_add]; exact hl
  rw [hb.cell hlt]
  exact hc i hi j u hu
theorem cellsE : Try.prog.cellsOf 42 = 12 := by kernel_rfl
theorem cellsA : Try.prog.cellsOf 40 = 9 := by kernel_rfl
theorem cellsT : Try.prog.cellsOf 34 = 5 := by kernel_rfl
theorem cells3 : Try.prog.cellsOf 3 = 1 := by kernel_rfl
theorem list12 {α : Type} {l : List α} (h : l.length = 12) : ∃ c0 c1 c2 c3 c4 c5 c6 c7 c8 c9 c10 c11, l = [c0, c1, c2, c3, c4, c5, c6, c7, c8, c9, c10, c11] := by
  match l, h with
  | [c0, c1, c2, c3, c4, c5, c6, c7, c8, c9, c10, c11], _ => exact ⟨c0, c1, c2, c3, c4, c5, c6, c7, c8, c9, c10, c11, rfl⟩
theorem cell_lt {w : World} {a : Addr} {v : Value} (h : w.cell? a = some v) : a.block < w.heap.size := by
  rcases Nat.lt_or_ge a.block w.heap.size with hlt | hge
  · exact hlt
  · have e : w.heap[a.block]? = none := Array.getElem?_eq_none hge
    simp [World.cell?, e] at h
section
variable {H : Type} {enc : TypeId × Value → H} {w : World} {base : Nat} {spare : Nat → Bool} {held : Bool}
theorem get_some {α : Type} {xs : List α} {i : Nat} (h : i < xs.length) : xs[i]? = some (xs[i]'h) := List.getElem?_eq_getElem h
set_option maxRecDepth 100000 in
set_option maxHeartbeats 4000000 in
theorem evn_of {fuel : Nat} {cs : List Value} {x : DataW H × List MemPlace} (h : DataW.trod enc Try.prog w base spare held fuel 42 cs = some x) : ∃ e : Evn, cs = nc e := by
  obtain ⟨xs, n, _, _, hl, hxl, hf⟩ := DataW.trod_struct Try.underlying42 h
  rw [cellsE] at hl
  obtain ⟨c0, c1, c2, c3, c4, c5, c6, c7, c8, c9, c10, c11, rfl⟩ := list12 hl
  have hx : xs.length = 4 := hxl
  have f0 := (hf 0 _ rfl).trans (get_some (show 0 < xs.length from by omega))
  change DataW.trod enc Try.prog w base spare held n 3 (List.take (Try.prog.cellsOf 3) (List.drop 0 [c0, c1, c2, c3, c4, c5, c6, c7, c8, c9, c10, c11])) = _ at f0
  simp only [cells3, List.drop, List.take] at f0
  have f1 := (hf 1 _ rfl).trans (get_some (show 1 < xs.length from by omega))
  change DataW.trod enc Try.prog w base spare held n 3 (List.take (Try.prog.cellsOf 3) (List.drop 1 [c0, c1, c2, c3, c4, c5, c6, c7, c8, c9, c10, c11])) = _ at f1
  simp only [cells3, List.drop, List.take] at f1
  have f2 := (hf 2 _ rfl).trans (get_some (show 2 < xs.length from by omega))
  change DataW.trod enc Try.prog w base spare held n 3 (List.take (Try.prog.cellsOf 3) (List.drop 2 [c0, c1, c2, c3, c4, c5, c6, c7, c8, c9, c10, c11])) = _ at f2
  simp only [cells3, List.drop, List.take] at f2
  have f3 := (hf 3 _ rfl).trans (get_some (show 3 < xs.length from by omega))
  change DataW.trod enc Try.prog w base spare held n 40 (List.take (Try.prog.cellsOf 40) (List.drop 3 [c0, c1, c2, c3, c4, c5, c6, c7, c8, c9, c10, c11])) = _ at f3
  simp only [cellsA, List.drop, List.take] at f3
  obtain ⟨ys, m, _, _, hl9, hyl, hg⟩ := DataW.trod_struct Try.underlying40 f3
  have hy : ys.length = 5 := hyl
  have g0 := (hg 0 _ rfl).trans (get_some (show 0 < ys.length from by omega))
  change DataW.trod enc Try.prog w base spare held m 3 (List.take (Try.prog.cellsOf 3) (List.drop 0 [c3, c4, c5, c6, c7, c8, c9, c10, c11])) = _ at g0
  simp only [cells3, List.drop, List.take] at g0
  have g1 := (hg 1 _ rfl).trans (get_some (show 1 < ys.length from by omega))
  change DataW.trod enc Try.prog w base spare held m 3 (List.take (Try.prog.cellsOf 3) (List.drop 1 [c3, c4, c5, c6, c7, c8, c9, c10, c11])) = _ at g1
  simp only [cells3, List.drop, List.take] at g1
  have g2 := (hg 2 _ rfl).trans (get_some (show 2 < ys.length from by omega))
  change DataW.trod enc Try.prog w base spare held m 3 (List.take (Try.prog.cellsOf 3) (List.drop 2 [c3, c4, c5, c6, c7, c8, c9, c10, c11])) = _ at g2
  simp only [cells3, List.drop, List.take] at g2
  have g3 := (hg 3 _ rfl).trans (get_some (show 3 < ys.length from by omega))
  change DataW.trod enc Try.prog w base spare held m 34 (List.take (Try.prog.cellsOf 34) (List.drop 3 [c3, c4, c5, c6, c7, c8, c9, c10, c11])) = _ at g3
  simp only [cellsT, List.drop, List.take] at g3
  have g4 := (hg 4 _ rfl).trans (get_some (show 4 < ys.length from by omega))
  change DataW.trod enc Try.prog w base spare held m 3 (List.take (Try.prog.cellsOf 3) (List.drop 8 [c3, c4, c5, c6, c7, c8, c9, c10, c11])) = _ at g4
  simp only [cells3, List.drop, List.take] at g4
  obtain ⟨zs, m2, _, _, hl5, hzl, hh⟩ := DataW.trod_struct Try.underlying34 g3
  have hz : zs.length = 5 := hzl
  have h0 := (hh 0 _ rfl).trans (get_some (show 0 < zs.length from by omega))
  change DataW.trod enc Try.prog w base spare held m2 3 (List.take (Try.prog.cellsOf 3) (List.drop 0 [c6, c7, c8, c9, c10])) = _ at h0
  simp only [cells3, List.drop, List.take] at h0
  have h1 := (hh 1 _ rfl).trans (get_some (show 1 < zs.length from by omega))
  change DataW.trod enc Try.prog w base spare held m2 3 (List.take (Try.prog.cellsOf 3) (List.drop 1 [c6, c7, c8, c9, c10])) = _ at h1
  simp only [cells3, List.drop, List.take] at h1
  have h2 := (hh 2 _ rfl).trans (get_some (show 2 < zs.length from by omega))
  change DataW.trod enc Try.prog w base spare held m2 3 (List.take (Try.prog.cellsOf 3) (List.drop 2 [c6, c7, c8, c9, c10])) = _ at h2
  simp only [cells3, List.drop, List.take] at h2
  have h3 := (hh 3 _ rfl).trans (get_some (show 3 < zs.length from by omega))
  change DataW.trod enc Try.prog w base spare held m2 3 (List.take (Try.prog.cellsOf 3) (List.drop 3 [c6, c7, c8, c9, c10])) = _ at h3
  simp only [cells3, List.drop, List.take] at h3
  have h4 := (hh 4 _ rfl).trans (get_some (show 4 < zs.length from by omega))
  change DataW.trod enc Try.prog w base spare held m2 3 (List.take (Try.prog.cellsOf 3) (List.drop 4 [c6, c7, c8, c9, c10])) = _ at h4
  simp only [cells3, List.drop, List.take] at h4
  obtain ⟨z0, rfl, _⟩ := field_int Try.underlying3 ⟨_, _, f0⟩
  obtain ⟨z1, rfl, _⟩ := field_int Try.underlying3 ⟨_, _, f1⟩
  obtain ⟨z2, rfl, _⟩ := field_int Try.underlying3 ⟨_, _, f2⟩
  obtain ⟨z3, rfl, _⟩ := field_int Try.underlying3 ⟨_, _, g0⟩
  obtain ⟨z4, rfl, _⟩ := field_int Try.underlying3 ⟨_, _, g1⟩
  obtain ⟨z5, rfl, _⟩ := field_int Try.underlying3 ⟨_, _, g2⟩
  obtain ⟨z11, rfl, _⟩ := field_int Try.underlying3 ⟨_, _, g4⟩
  obtain ⟨z6, rfl, _⟩ := field_int Try.underlying3 ⟨_, _, h0⟩
  obtain ⟨z7, rfl, _⟩ := field_int Try.underlying3 ⟨_, _, h1⟩
  obtain ⟨z8, rfl, _⟩ := field_int Try.underlying3 ⟨_, _, h2⟩
  obtain ⟨z9, rfl, _⟩ := field_int Try.underlying3 ⟨_, _, h3⟩
  obtain ⟨z10, rfl, _⟩ := field_int Try.underlying3 ⟨_, _, h4⟩
  exact ⟨⟨z0, z1, z2, z3, z4, z5, z6, z7, z8, z9, z10, z11⟩, rfl⟩
set_option maxRecDepth 100000 in
theorem open_evns {r : Reach} {b0 : Nat} {v : Value} {d : DataW H} {p : List MemPlace}
    (hv : Value.okWide Try.prog w r b0 22 v) (h : DataW.Trod enc Try.prog w base (fun _ => true) held 22 v d p) :
    ∃ (a : Option Addr) (len cap : Nat) (g : Nat → Evn), v = .slice a len cap ∧ EvnAt a len g w := by
  obtain ⟨a, len, cap, rfl⟩ := okWide_slice Try.underlying22 hv
  obtain ⟨fuel, hf⟩ := h
  rcases open_slice Try.underlying22 hf with ⟨hcs, _⟩ | ⟨x, l, c, m, n, D, Pl, hcs, _, hl, hm, hmm, _, hi⟩
  · simp [Value.cells] at hcs
    obtain ⟨rfl, rfl, rfl⟩ := hcs
    exact ⟨_, _, _, fun _ => ⟨0, 0, 0, 0, 0, 0, 0, 0, 0, 0, 0, 0⟩, rfl, fun h => absurd h (by omega)⟩
  · simp [Value.cells] at hcs
    obtain ⟨rfl, rfl, rfl⟩ := hcs
    have hmc : m = cap := by rw [hmm]; exact if_pos rfl
    have key : ∀ i, i < len → ∃ e : Evn, ∀ (j : Nat) (u : Value), (nc e)[j]? = some u → w.cell? (x.add (i * 12 + j)) = some u := by
      intro i hil
      obtain ⟨cs', hc, ht'⟩ := hi i (by omega)
      rw [cellsE] at hc
      obtain ⟨e, rfl⟩ := evn_of ht'
      obtain ⟨_, hcl, hat⟩ := World.cells?_some hc
      refine ⟨e, fun j u hu => ?_⟩
      have hj : j < 12 := by
        have := (List.getElem?_eq_some_iff.1 hu).1
        exact this
      rw [← Go.Deep.add_add, hat j hj]
      exact hu
    refine ⟨some x, len, cap, fun i => if hil : i < len then Classical.choose (key i hil) else ⟨0, 0, 0, 0, 0, 0, 0, 0, 0, 0, 0, 0⟩, rfl, fun h0 => ⟨x, rfl, ?_, fun i hil => ?_⟩⟩
    · obtain ⟨e, hc⟩ := key 0 h0
      have := cell_lt (hc 0 _ rfl)
      rw [block_of_add] at this
      exact this
    · simp only [dif_pos hil]
      exact Classical.choose_spec (key i hil)
end
end
end Go.Proofs.Ytfdjbhlpkfbgnaa

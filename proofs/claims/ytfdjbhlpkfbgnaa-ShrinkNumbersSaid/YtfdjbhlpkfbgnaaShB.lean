/-
  Blocks of cells; rows of events.
-/
import Derived.Test.YtfdjbhlpkfbgnaaRows
import Derived.Test.YtfdjbhlpkfbgnaaKit
import Derived.Test.YtfdjbhlpkfbgnaaApp
import Derived.Test.YtfdjbhlpkfbgnaaQuiet
import Derived.Test.YtfdjbhlpkfbgnaaShM
import Derived.Test.YtfdjbhlpkfbgnaaShO
import Derived.WalkKit
import Derived.ProofKit
import Derived.OpenShut
import Derived.ShutString
import Derived.Below
import Derived.Outline
import Derived.WalkLawsBesides
import Derived.WalkSpells
import Derived.Handy
import Derived.Deep.QuietTactic
import Derived.BigQuiet
import Derived.RegionTactic
import Derived.ChangeAlike
import Derived.Lib.Hide
import Derived.Laws.Rows
import Derived.Laws.Tables
import Derived.Laws.CopyOwn
import Derived.Laws.MakeOwn
import Derived.Laws.Entries
import Derived.Laws.OwnMore
import Derived.Deep.WholeRow
import Derived.Deep.LoopGhost
import Derived.Deep.AppendLies
import Derived.Deep.Draws
import Derived.Maps.AppendAt
import Derived.OwnWalk
import Derived.Deep.RegionHeld3
import Derived.Deep.Cut
import Derived.Deep.CutRange
import Derived.Deep.DeepCutAuto
import Derived.Deep.CutBlock
import Derived.Lib.SliceRun
import Derived.IntWalk
namespace Go.Proofs.Ytfdjbhlpkfbgnaa
open Go.ChangeShapes Go.WideShapes Go.ChangeAt Go.RowKit
def Bl (B : Nat) (l : List Value) (w : World) : Prop := ∃ t, w.heap[B]? = some (.cells l.toArray t (0, 0))
theorem Bl.lt {B : Nat} {l : List Value} {w : World} (h : Bl B l w) : B < w.heap.size := by
  obtain ⟨t, hh⟩ := h
  exact (Array.getElem?_eq_some_iff.1 hh).1
theorem Bl.cell {B : Nat} {l : List Value} {w : World} (h : Bl B l w) (j : Nat) (u : Value) (hu : l[j]? = some u) : w.cell? ⟨B, j, none⟩ = some u := by
  obtain ⟨t, hh⟩ := h
  rw [cell_of_row _ _ _ _ _ _ hh]; simpa using hu
theorem Bl.frz {B : Nat} {l : List Value} {w : World} (h : Bl B l w) (j : Nat) : w.frozen? ⟨B, j, none⟩ = false := by
  obtain ⟨t, hh⟩ := h
  simp [World.frozen?, hh]
theorem Bl.new (w : World) (cs : List Value) (t : TypeId) : Bl w.heap.size cs (w.alloc (.cells cs.toArray t)) := ⟨t, heap_alloc_new w (.cells cs.toArray t)⟩
theorem Bl.below {B : Nat} {l : List Value} {w w' : World} (h : Bl B l w) (hb : Below w.heap.size w w') : Bl B l w' := by
  have hl := h.lt
  obtain ⟨t, hh⟩ := h
  exact ⟨t, (hb.block B hl).trans hh⟩
theorem Bl.far {B : Nat} {l : List Value} {w : World} (h : Bl B l w) {p : Addr} (hne : p.block ≠ B) (u : Value) : Bl B l (w.setCell p u) := by
  obtain ⟨t, hh⟩ := h
  exact ⟨t, (Below.heap_setCell w p u B (fun e => hne e.symm)).trans hh⟩
theorem Bl.set {B : Nat} {l : List Value} {w : World} (h : Bl B l w) (j : Nat) (u : Value) : Bl B (l.set j u) (w.setCell ⟨B, j, none⟩ u) := by
  obtain ⟨t, hh⟩ := h
  refine ⟨t, ?_⟩
  simp [World.setCell, Array.getElem?_modify, hh]
theorem blk_set {w : World} {g : Nat} {t : TypeId} {cs : Array Value} (h : w.heap[g]? = some (.cells cs t (0, 0))) (i : Nat) (u : Value) : (w.setCell ⟨g, i, none⟩ u).heap[g]? = some (.cells (cs.setIfInBounds i u) t (0, 0)) := by
  simp [World.setCell, Array.getElem?_modify, h]
theorem blk_far {w : World} {g : Nat} {o : Obj} (h : w.heap[g]? = some o) {p : Addr} (hp : g ≠ p.block) (u : Value) : (w.setCell p u).heap[g]? = some o := (Below.heap_setCell w p u g hp).trans h
theorem blk_frozen {w : World} {g : Nat} {t : TypeId} {cs : Array Value} (h : w.heap[g]? = some (.cells cs t (0, 0))) (i : Nat) : w.frozen? ⟨g, i, none⟩ = false := by
  simp [World.frozen?, h]
theorem blk_lt {w : World} {g : Nat} {o : Obj} (h : w.heap[g]? = some o) : g < w.heap.size := by
  rcases Nat.lt_or_ge g w.heap.size with hlt | hge
  · exact hlt
  · rw [Array.getElem?_eq_none hge] at h; cases h

theorem oshape {w : World} {base : Nat} {e : TypeId} {size : Nat} {v : Value} {n : Nat} {xs : List Value} (h : w.ownsRow base e size v n xs) : ∃ A c, v = .slice A n c := by
  rcases h.2 with ⟨rfl, rfl⟩ | ⟨g, cap, cur, hv, _⟩
  · exact ⟨_, _, rfl⟩
  · exact ⟨_, _, hv⟩
theorem rkept {w wx : World} {base : Nat} {e : TypeId} {size m : Nat} {v : Value} {xs : List Value} (h : w.ownsRow base e size v m xs) (hb : Below w.heap.size w wx) : wx.ownsRow base e size v m xs := by
  refine ⟨h.1, ?_⟩
  rcases h.2 with h0 | ⟨g, cap, cur, hv, hg, hgh, hr⟩
  · exact .inl h0
  · have hlt : g < w.heap.size := by
      rcases Nat.lt_or_ge g w.heap.size with hlt | hge
      · exact hlt
      · rw [Array.getElem?_eq_none hge] at hgh; cases hgh
    exact .inr ⟨g, cap, cur, hv, hg, (hb.block g hlt).trans hgh, hr⟩

theorem rfar {wr w' : World} {base : Nat} {e : TypeId} {size m : Nat} {u : Value} {xs : List Value} (h : wr.ownsRow base e size u m xs) (hk : ∀ k, base ≤ k → k < wr.heap.size → w'.heap[k]? = wr.heap[k]?) : w'.ownsRow base e size u m xs := by
  refine ⟨h.1, ?_⟩
  rcases h.2 with h0 | ⟨g, cap, cur, hv, hg, hgh, hr⟩
  · exact .inl h0
  · have hlt : g < wr.heap.size := by
      rcases Nat.lt_or_ge g wr.heap.size with hlt | hge
      · exact hlt
      · rw [Array.getElem?_eq_none hge] at hgh; cases hgh
    exact .inr ⟨g, cap, cur, hv, hg, (hk g hg hlt).trans hgh, hr⟩
theorem reads_newN (w : World) (n s : Nat) (l : List Value) (t : TypeId) (hl : l.length = n * s) : Reads (w.alloc (.cells l.toArray t)) (w.heap.size + 1) s (some ⟨w.heap.size, 0, none⟩) n l := by
  refine ⟨hl, fun _ => ⟨_, rfl, by show w.heap.size < w.heap.size + 1; omega, fun j u hu => ?_⟩⟩
  have hg := heap_alloc_new w (.cells l.toArray t)
  unfold Addr.add
  by_cases h0 : j = 0
  · subst h0
    simp only [if_true]
    rw [cell_of_row _ _ _ _ _ _ hg]
    simpa using hu
  · simp only [h0, if_false, Nat.zero_add]
    rw [cell_of_row _ _ _ _ _ _ hg]
    simpa using hu
theorem erow_cell {w : World} {base g n c k j : Nat} {l : List Evn} {x : Evn} (h : w.ownsRow base 38 12 (.slice (some ⟨g, 0, none⟩) n c) n (nv l)) (hx : l[k]? = some x) (hn : n = l.length) (hj : j < 12) {u : Value} (hu : (nc x)[j]? = some u) : w.cell? ⟨g, k * 12 + j, none⟩ = some u := by
  have hk := (List.getElem?_eq_some_iff.1 hx).1
  exact (World.ownsRow.cellAt h (k * 12 + j) (by omega)).trans ((nv_get l k j x hx hj).trans hu)
theorem addp (a : Addr) (i : Nat) (hi : i ≠ 0) (h : a.spot = none) : a.add i = ⟨a.block, a.off + i, none⟩ := by
  unfold Addr.add
  rw [if_neg hi]
end Go.Proofs.Ytfdjbhlpkfbgnaa

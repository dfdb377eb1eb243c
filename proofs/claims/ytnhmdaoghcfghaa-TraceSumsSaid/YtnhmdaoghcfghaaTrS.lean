/-
  The abstract pool in memory.
-/
import Derived.Test.YtnhmdaoghcfghaaRows
import Derived.Test.YtnhmdaoghcfghaaKit
import Derived.Test.YtnhmdaoghcfghaaApp
import Derived.Test.YtnhmdaoghcfghaaQuiet
import Derived.Test.YtnhmdaoghcfghaaTrM
import Derived.WalkKit
import Derived.ProofKit
import Derived.OpenShut
import Derived.ShutString
import Derived.Below
import Derived.Outline
import Derived.WalkLawsBesides
import Derived.WalkSpells
import Derived.Handy
import Derived.Deep.QuietTactic
import Derived.BigQuiet
import Derived.RegionTactic
import Derived.ChangeAlike
import Derived.Lib.Hide
import Derived.Laws.Rows
import Derived.Laws.Tables
import Derived.Laws.CopyOwn
import Derived.Laws.MakeOwn
import Derived.Laws.Entries
import Derived.Laws.OwnMore
import Derived.Deep.WholeRow
import Derived.Deep.LoopGhost
import Derived.Deep.AppendLies
import Derived.Deep.Draws
import Derived.Maps.AppendAt
import Derived.OwnWalk
import Derived.Deep.RegionHeld3
import Derived.Deep.Cut
import Derived.Deep.CutRange
import Derived.Deep.DeepCutAuto
import Derived.Deep.CutBlock
import Derived.Lib.SliceRun
import Derived.IntWalk
namespace Go.Proofs.Ytnhmdaoghcfghaa
open Go.ChangeShapes Go.WideShapes Go.ChangeAt Go.RowKit
def Bl (B : Nat) (l : List Value) (w : World) : Prop := ∃ t, w.heap[B]? = some (.cells l.toArray t (0, 0))
theorem Bl.lt {B : Nat} {l : List Value} {w : World} (h : Bl B l w) : B < w.heap.size := by
  obtain ⟨t, hh⟩ := h
  exact (Array.getElem?_eq_some_iff.1 hh).1
theorem Bl.cell {B : Nat} {l : List Value} {w : World} (h : Bl B l w) (j : Nat) (u : Value) (hu : l[j]? = some u) : w.cell? ⟨B, j, none⟩ = some u := by
  obtain ⟨t, hh⟩ := h
  rw [cell_of_row _ _ _ _ _ _ hh]; simpa using hu
theorem Bl.frz {B : Nat} {l : List Value} {w : World} (h : Bl B l w) (j : Nat) : w.frozen? ⟨B, j, none⟩ = false := by
  obtain ⟨t, hh⟩ := h
  simp [World.frozen?, hh]
theorem Bl.new (w : World) (cs : List Value) (t : TypeId) : Bl w.heap.size cs (w.alloc (.cells cs.toArray t)) := ⟨t, heap_alloc_new w (.cells cs.toArray t)⟩
theorem Bl.below {B : Nat} {l : List Value} {w w' : World} (h : Bl B l w) (hb : Below w.heap.size w w') : Bl B l w' := by
  have hl := h.lt
  obtain ⟨t, hh⟩ := h
  exact ⟨t, (hb.block B hl).trans hh⟩
theorem Bl.far {B : Nat} {l : List Value} {w : World} (h : Bl B l w) {p : Addr} (hne : p.block ≠ B) (u : Value) : Bl B l (w.setCell p u) := by
  obtain ⟨t, hh⟩ := h
  exact ⟨t, (Below.heap_setCell w p u B (fun e => hne e.symm)).trans hh⟩
theorem Bl.set {B : Nat} {l : List Value} {w : World} (h : Bl B l w) (j : Nat) (u : Value) : Bl B (l.set j u) (w.setCell ⟨B, j, none⟩ u) := by
  obtain ⟨t, hh⟩ := h
  refine ⟨t, ?_⟩
  simp [World.setCell, Array.getElem?_modify, hh]
theorem blk_set {w : World} {g : Nat} {t : TypeId} {cs : Array Value} (h : w.heap[g]? = some (.cells cs t (0, 0))) (i : Nat) (u : Value) : (w.setCell ⟨g, i, none⟩ u).heap[g]? = some (.cells (cs.setIfInBounds i u) t (0, 0)) := by
  simp [World.setCell, Array.getElem?_modify, h]
theorem blk_far {w : World} {g : Nat} {o : Obj} (h : w.heap[g]? = some o) {p : Addr} (hp : g ≠ p.block) (u : Value) : (w.setCell p u).heap[g]? = some o := (Below.heap_setCell w p u g hp).trans h
theorem blk_frozen {w : World} {g : Nat} {t : TypeId} {cs : Array Value} (h : w.heap[g]? = some (.cells cs t (0, 0))) (i : Nat) : w.frozen? ⟨g, i, none⟩ = false := by
  simp [World.frozen?, h]
theorem blk_lt {w : World} {g : Nat} {o : Obj} (h : w.heap[g]? = some o) : g < w.heap.size := by
  rcases Nat.lt_or_ge g w.heap.size with hlt | hge
  · exact hlt
  · rw [Array.getElem?_eq_none hge] at h; cases h

theorem own_shape {w : World} {base : Nat} {e : TypeId} {size : Nat} {v : Value} {n : Nat} {xs : List Value} (h : w.ownsRow base e size v n xs) : ∃ A c, v = .slice A n c := by
  rcases h.2 with ⟨rfl, rfl⟩ | ⟨g, cap, cur, hv, _⟩
  · exact ⟨_, _, rfl⟩
  · exact ⟨_, _, hv⟩
theorem row_kept {w wx : World} {base : Nat} {e : TypeId} {size m : Nat} {v : Value} {xs : List Value} (h : w.ownsRow base e size v m xs) (hb : Below w.heap.size w wx) : wx.ownsRow base e size v m xs := by
  refine ⟨h.1, ?_⟩
  rcases h.2 with h0 | ⟨g, cap, cur, hv, hg, hgh, hr⟩
  · exact .inl h0
  · have hlt : g < w.heap.size := by
      rcases Nat.lt_or_ge g w.heap.size with hlt | hge
      · exact hlt
      · rw [Array.getElem?_eq_none hge] at hgh; cases hgh
    exact .inr ⟨g, cap, cur, hv, hg, (hb.block g hlt).trans hgh, hr⟩

theorem row_far {wr w' : World} {base : Nat} {e : TypeId} {size m : Nat} {u : Value} {xs : List Value} (h : wr.ownsRow base e size u m xs) (hk : ∀ k, base ≤ k → k < wr.heap.size → w'.heap[k]? = wr.heap[k]?) : w'.ownsRow base e size u m xs := by
  refine ⟨h.1, ?_⟩
  rcases h.2 with h0 | ⟨g, cap, cur, hv, hg, hgh, hr⟩
  · exact .inl h0
  · have hlt : g < wr.heap.size := by
      rcases Nat.lt_or_ge g wr.heap.size with hlt | hge
      · exact hlt
      · rw [Array.getElem?_eq_none hge] at hgh; cases hgh
    exact .inr ⟨g, cap, cur, hv, hg, (hk g hg hlt).trans hgh, hr⟩
theorem reads_newN (w : World) (n s : Nat) (l : List Value) (t : TypeId) (hl : l.length = n * s) : Reads (w.alloc (.cells l.toArray t)) (w.heap.size + 1) s (some ⟨w.heap.size, 0, none⟩) n l := by
  refine ⟨hl, fun _ => ⟨_, rfl, by show w.heap.size < w.heap.size + 1; omega, fun j u hu => ?_⟩⟩
  have hg := heap_alloc_new w (.cells l.toArray t)
  unfold Addr.add
  by_cases h0 : j = 0
  · subst h0
    simp only [if_true]
    rw [cell_of_row _ _ _ _ _ _ hg]
    simpa using hu
  · simp only [h0, if_false, Nat.zero_add]
    rw [cell_of_row _ _ _ _ _ _ hg]
    simpa using hu
/-- A model, and its orders. -/
structure MS (Fx : Nat → Option Obj → Prop) (w wr : World) (B K : Nat) (p c n b r f g : Int) (v : Value) (os : List Ord) (now : Int) : Prop where
  blk : Bl B [.int .i64 p, .int .i64 c, .int .i64 n, .int .i64 b, .int .i64 r, .int .i64 f, .int .i64 g, v, .int .i64 now] wr
  row : wr.ownsRow K 44 13 v os.length (ov os)
  bel : Below w.heap.size w wr
  wB : w.heap.size ≤ B
  kB : B < K
  hK : K ≤ wr.heap.size
  fx : ∀ (k : Nat) (o : Option Obj), Fx k o → wr.heap[k]? = o ∧ k ≠ B ∧ v.ownBlock ≠ some k ∧ k < wr.heap.size
section
variable {Fx : Nat → Option Obj → Prop} {w wr w' : World} {B K : Nat} {p c n b r f g now : Int} {v : Value} {os : List Ord}
theorem MS.below (h : MS Fx w wr B K p c n b r f g v os now) (hb : Below wr.heap.size wr w') : MS Fx w w' B K p c n b r f g v os now :=
  ⟨h.blk.below hb, row_kept h.row hb, Below.step h.bel hb, h.wB, h.kB, Nat.le_trans h.hK hb.size, fun k o hk => by
    obtain ⟨a, b', c', d⟩ := h.fx k o hk
    exact ⟨(hb.block k d).trans a, b', c', Nat.lt_of_lt_of_le d hb.size⟩⟩
/-- The clock. -/
theorem MS.tick (h : MS Fx w wr B K p c n b r f g v os now) (x : Int) : MS Fx w (wr.setCell ⟨B, 8, none⟩ (.int .i64 x)) B K p c n b r f g v os x :=
  ⟨h.blk.set 8 _, row_far h.row fun k hk _ => Below.heap_setCell wr ⟨B, 8, none⟩ _ k (by have := h.kB; show k ≠ B; omega), h.bel.setCell (p := ⟨B, 8, none⟩) h.wB _, h.wB, h.kB, by simpa using h.hK, fun k o hk => by
    obtain ⟨a, b', c', d⟩ := h.fx k o hk
    exact ⟨(Below.heap_setCell wr ⟨B, 8, none⟩ _ k b').trans a, b', c', by simpa using d⟩⟩
theorem MS.app_low {w2 : World} {o : Obj} (h : MS Fx w wr B K p c n b r f g v os now) (hg : (wr.alloc o).grownBy w2 v.ownBlock) : Below K wr w2 :=
  Below.grown ((Below.refl _ _).alloc h.hK o) hg (by rw [World.size_alloc]; have := h.hK; omega) fun k e => (h.row.lt k e).1
/-- An order is laid behind the others. -/
theorem MS.push {w2 : World} {o : Obj} {u : Value} {x : Ord} (h : MS Fx w wr B K p c n b r f g v os now) (ho : w2.ownsRow K 44 13 u (os.length + 1) (ov os ++ oc x)) (hg : (wr.alloc o).grownBy w2 v.ownBlock) (hu : u.ownBlock = v.ownBlock ∨ ∃ k, u.ownBlock = some k ∧ wr.heap.size ≤ k) : MS Fx w (w2.setCell ⟨B, 7, none⟩ u) B K p c n b r f g u (os ++ [x]) now := by
  have hb := h.app_low hg
  have hkB := h.kB
  have hbl : Bl B [.int .i64 p, .int .i64 c, .int .i64 n, .int .i64 b, .int .i64 r, .int .i64 f, .int .i64 g, v, .int .i64 now] w2 := by
    obtain ⟨t, ht⟩ := h.blk
    exact ⟨t, (hb.block B h.kB).trans ht⟩
  refine ⟨hbl.set 7 u, ?_, (h.bel.trans (hb.mono (by have := h.wB; omega))).setCell (p := ⟨B, 7, none⟩) h.wB u, h.wB, h.kB, by rw [show (w2.setCell ⟨B, 7, none⟩ u).heap.size = w2.heap.size from by simp]; exact Nat.le_trans h.hK hb.size, fun k o' hk => ?_⟩
  rotate_left
  · obtain ⟨a, b', c', d⟩ := h.fx k o' hk
    refine ⟨(Below.heap_setCell w2 ⟨B, 7, none⟩ u k b').trans ((hg.block k (by rw [World.size_alloc]; omega) (fun e => c' e.symm)).trans ((Below.heap_alloc wr o k d).trans a)), b', ?_, ?_⟩
    · rcases hu with h1 | ⟨k', h1, h2⟩
      · rw [h1]; exact c'
      · rw [h1]; intro e; injection e with e; omega
    · have h1 := hg.size
      rw [World.size_alloc] at h1
      rw [show (w2.setCell ⟨B, 7, none⟩ u).heap.size = w2.heap.size from by simp]
      omega
  rw [List.length_append, ov_snoc]
  exact row_far ho fun k hk _ => Below.heap_setCell w2 ⟨B, 7, none⟩ u k (by show k ≠ B; omega)
theorem own_setCell {base g n c j : Nat} {e : TypeId} {size : Nat} {xs : List Value} (h : wr.ownsRow base e size (.slice (some ⟨g, 0, none⟩) n c) n xs) (u : Value) (hj : j < n * size) : (wr.setCell ⟨g, j, none⟩ u).ownsRow base e size (.slice (some ⟨g, 0, none⟩) n c) n (xs.set j u) := by
  refine ⟨by rw [List.length_set]; exact h.1, ?_⟩
  rcases h.2 with ⟨h0, h1⟩ | ⟨g', cap, cur, hv, hg, hgh, h1, h2, h3, h4⟩
  · cases h0
  · right
    injection hv with hv1 hv2 hv3
    injection hv1 with hv1
    injection hv1 with hv1
    subst hv1 hv3
    refine ⟨g, c, cur.setIfInBounds j u, rfl, hg, blk_set hgh j u, h1, h2, by simpa using h3, ?_⟩
    rw [Array.toList_setIfInBounds, List.take_set, h4]
/-- A cell of an order is another one. -/
theorem MS.setOrd {gb cp i j : Nat} {o o' : Ord} {x : Value} (h : MS Fx w wr B K p c n b r f g (.slice (some ⟨gb, 0, none⟩) os.length cp) os now) (ho : os[i]? = some o) (hj : j < 13) (hc : oc o' = (oc o).set j x) : MS Fx w (wr.setCell ⟨gb, i * 13 + j, none⟩ x) B K p c n b r f g (.slice (some ⟨gb, 0, none⟩) os.length cp) (os.set i o') now := by
  have hi := (List.getElem?_eq_some_iff.1 ho).1
  have hg := (h.row.lt gb rfl).1
  have hkB := h.kB
  have h1 := own_setCell (j := i * 13 + j) h.row x (by omega)
  rw [ov_set os i j o o' x ho hj hc] at h1
  refine ⟨h.blk.far (p := ⟨gb, i * 13 + j, none⟩) (by show gb ≠ B; omega) x, ?_, h.bel.setCell (p := ⟨gb, i * 13 + j, none⟩) (by have := h.wB; show _ ≤ gb; omega) x, h.wB, h.kB, by simpa using h.hK, fun k oo hk => by
    obtain ⟨a, b', c', d⟩ := h.fx k oo hk
    have hkg : k ≠ gb := fun e => c' (by rw [e]; rfl)
    exact ⟨(Below.heap_setCell wr ⟨gb, i * 13 + j, none⟩ x k hkg).trans a, b', c', by simpa using d⟩⟩
  rw [List.length_set]
  exact h1
theorem MS.weaken {Fy : Nat → Option Obj → Prop} (h : MS Fx w wr B K p c n b r f g v os now) (hw : ∀ (k : Nat) (o : Option Obj), Fy k o → Fx k o) : MS Fy w wr B K p c n b r f g v os now := ⟨h.blk, h.row, h.bel, h.wB, h.kB, h.hK, fun k o hk => h.fx k o (hw k o hk)⟩
theorem MS.more {X : Nat} {oX : Option Obj} (h : MS Fx w wr B K p c n b r f g v os now) (hX : wr.heap[X]? = oX) (hB : X ≠ B) (hv : v.ownBlock ≠ some X) (hl : X < wr.heap.size) : MS (fun k o => Fx k o ∨ (k = X ∧ o = oX)) w wr B K p c n b r f g v os now := ⟨h.blk, h.row, h.bel, h.wB, h.kB, h.hK, fun k o hk => by
  rcases hk with hk | ⟨rfl, rfl⟩
  · exact h.fx k o hk
  · exact ⟨hX, hB, hv, hl⟩⟩
/-- The row's block. -/
theorem MS.form {m c' : Nat} {A : Option Addr} (h : MS Fx w wr B K p c n b r f g (.slice A m c') os now) (hn : 0 < os.length) : ∃ g, A = some ⟨g, 0, none⟩ ∧ m = os.length ∧ K ≤ g ∧ g < wr.heap.size := by
  obtain ⟨g, cap, hv, h1, h2⟩ := World.ownsRow.form h.row hn
  injection hv with e1 e2 e3
  exact ⟨g, e1, e2, h1, h2⟩
theorem row_cell {base g n c k j : Nat} {o : Ord} (h : wr.ownsRow base 44 13 (.slice (some ⟨g, 0, none⟩) n c) n (ov os)) (ho : os[k]? = some o) (hn : n = os.length) (hj : j < 13) {u : Value} (hu : (oc o)[j]? = some u) : wr.cell? ⟨g, k * 13 + j, none⟩ = some u := by
  have hk := (List.getElem?_eq_some_iff.1 ho).1
  exact (World.ownsRow.cellAt h (k * 13 + j) (by omega)).trans ((ov_get os k j o ho hj).trans hu)
theorem row_frz {base g n c : Nat} (h : wr.ownsRow base 44 13 (.slice (some ⟨g, 0, none⟩) n c) n (ov os)) (j : Nat) : wr.frozen? ⟨g, j, none⟩ = false := by
  rcases h.2 with ⟨h0, _⟩ | ⟨g', cap, cur, hv, hg, hgh, _⟩
  · cases h0
  · injection hv with hv1 hv2 hv3
    injection hv1 with hv1
    injection hv1 with hv1
    subst hv1
    exact blk_frozen hgh j
end
end Go.Proofs.Ytnhmdaoghcfghaa

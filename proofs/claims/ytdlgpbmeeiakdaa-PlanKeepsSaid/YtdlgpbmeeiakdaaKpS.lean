/-
  PlanKeeps: the state.
-/
import Derived.Test.YtdlgpbmeeiakdaaKit
import Derived.Test.YtdlgpbmeeiakdaaApp
import Derived.Test.YtdlgpbmeeiakdaaEv
import Derived.Test.YtdlgpbmeeiakdaaEvP
import Derived.Test.YtdlgpbmeeiakdaaEvQ
import Derived.Test.YtdlgpbmeeiakdaaEvR
import Derived.Test.YtdlgpbmeeiakdaaQuiet
import Derived.Test.YtdlgpbmeeiakdaaPlA
import Derived.Test.YtdlgpbmeeiakdaaPlB
import Derived.Test.YtdlgpbmeeiakdaaPlC
import Derived.Test.YtdlgpbmeeiakdaaPlD
import Derived.Test.YtdlgpbmeeiakdaaPlF
import Derived.Test.YtdlgpbmeeiakdaaPlW
import Derived.Test.YtdlgpbmeeiakdaaMxA
import Derived.Test.YtdlgpbmeeiakdaaMxB
import Derived.Test.YtdlgpbmeeiakdaaMxC
import Derived.Test.YtdlgpbmeeiakdaaMxE
import Derived.Test.YtdlgpbmeeiakdaaKpN
import Derived.WalkKit
import Derived.ProofKit
import Derived.OpenShut
import Derived.ShutString
import Derived.Below
import Derived.Outline
import Derived.WalkLawsBesides
import Derived.WalkSpells
import Derived.Handy
import Derived.Deep.QuietTactic
import Derived.BigQuiet
import Derived.RegionTactic
import Derived.ChangeAlike
import Derived.Lib.Hide
import Derived.Laws.Rows
import Derived.Laws.Tables
import Derived.Laws.CopyOwn
import Derived.Laws.MakeOwn
import Derived.Laws.Entries
import Derived.Laws.OwnMore
import Derived.Deep.WholeRow
import Derived.Deep.LoopGhost
import Derived.Deep.AppendLies
import Derived.Deep.Draws
import Derived.Maps.AppendAt
import Derived.OwnWalk
import Derived.Deep.RegionHeld3
import Derived.Deep.Cut
import Derived.Deep.CutRange
import Derived.Deep.DeepCutAuto
import Derived.Deep.CutBlock
import Derived.Lib.SliceRun
import Derived.IntWalk
namespace Go.Proofs.Ytdlgpbmeeiakdaa
open Go.ChangeShapes Go.WideShapes Go.ChangeAt Go.RowKit
/-- Far from a block. -/
theorem EAt.via {w w' : World} {A : Option Addr} {l : List Ev} (h : EAt w A l) (hs : w.heap.size ≤ w'.heap.size) (hk : ∀ g, A = some ⟨g, 0, none⟩ → l ≠ [] → g < w.heap.size → w'.heap[g]? = w.heap[g]?) : EAt w' A l := by
  by_cases h0 : l = []
  · exact .inl h0
  rcases h with h | ⟨g, e, hg, hc⟩
  · exact .inl h
  · exact .inr ⟨g, e, Nat.lt_of_lt_of_le hg hs, fun i j x u h1 h2 h3 => (World.cell?_of_block (a := ⟨g, i * 12 + j, none⟩) (hk g e h0 hg)).trans (hc i j x u h1 h2 h3)⟩
theorem Cts.via {w w' : World} {O m : Nat} {f : Nat → Nat} (h : Cts w O m f) (hk : w'.heap[O]? = w.heap[O]?) : Cts w' O m f := by
  obtain ⟨cs, h1, h2, h3⟩ := h
  exact ⟨cs, hk.trans h1, h2, h3⟩
theorem Blk7.via {B : Nat} {v0 v1 v2 v3 v4 v5 v6 : Int} {w w' : World} (h : Blk7 B v0 v1 v2 v3 v4 v5 v6 w) (hs : w.heap.size ≤ w'.heap.size) (hk : w'.heap[B]? = w.heap[B]?) : Blk7 B v0 v1 v2 v3 v4 v5 v6 w' := by
  obtain ⟨⟨c0, c1, c2, c3, c4, c5, c6⟩, hl⟩ := h
  have hc : ∀ o, w'.cell? ⟨B, o, none⟩ = w.cell? ⟨B, o, none⟩ := fun o => World.cell?_of_block (a := ⟨B, o, none⟩) hk
  exact ⟨⟨(hc 0).trans c0, (hc 1).trans c1, (hc 2).trans c2, (hc 3).trans c3, (hc 4).trans c4, (hc 5).trans c5, (hc 6).trans c6⟩, Nat.lt_of_lt_of_le hl hs⟩
/-- The law's row of rows, its rules. -/
structure KM (w wr : World) (R O : Nat) (p c n b r f g : Int) (u : Value) (rs : List Rw) : Prop where
  rows : wr.ownsRow (O + 1) 38 1 u rs.length (rs.map Rw.v)
  nil : rs = [] → u.ownBlock = none
  evs : ∀ q ∈ rs, EAt wr q.A (q.L.map evOf)
  far : ∀ q ∈ rs, q.L ≠ [] → ∀ g, q.A = some ⟨g, 0, none⟩ → O < g
  bel : Below w.heap.size w wr
  blk : Blk7 R p c n b r f g wr
theorem KM.below {w wr w' : World} {R O : Nat} {p c n b r f g : Int} {u : Value} {rs : List Rw} (h : KM w wr R O p c n b r f g u rs) (hb : Below wr.heap.size wr w') : KM w w' R O p c n b r f g u rs :=
  ⟨row_kept h.rows hb, h.nil, fun q hq => (h.evs q hq).below hb, h.far, Below.step h.bel hb, h.blk.below hb⟩
theorem KM.set {w wr : World} {R O j : Nat} {x : Value} {p c n b r f g : Int} {u : Value} {rs : List Rw} (h : KM w wr R O p c n b r f g u rs) (hR : R < O) (hO : w.heap.size ≤ O) : KM w (wr.setCell ⟨O, j, none⟩ x) R O p c n b r f g u rs := by
  have hs : wr.heap.size ≤ (wr.setCell ⟨O, j, none⟩ x).heap.size := by simp
  have hk : ∀ k, k ≠ O → (wr.setCell ⟨O, j, none⟩ x).heap[k]? = wr.heap[k]? := fun k hk => Below.heap_setCell wr ⟨O, j, none⟩ x k hk
  exact ⟨ownsRow_setCell_below h.rows (by show O < O + 1; omega) x, h.nil, fun q hq => (h.evs q hq).via hs fun g e hne _ => hk g (by have := h.far q hq (by intro h0; rw [h0] at hne; exact hne rfl) g e; omega), h.far, h.bel.setCell (p := ⟨O, j, none⟩) hO x, h.blk.via hs (hk R (by omega))⟩
theorem km_keep {w2 w3 : World} {A : Option Addr} {l : List Ev} {base : Nat} {u : Value} {rs : List Rw} {o : Obj} (h : EAt w2 A l) (hu : w2.ownsRow base 38 1 u rs.length (rs.map Rw.v)) (hn : rs = [] → u.ownBlock = none) (hg : (w2.alloc o).grownBy w3 u.ownBlock) : EAt w3 A l := by
  by_cases h0 : l = []
  · exact .inl h0
  rcases h with h | ⟨g, e, hgl, hc⟩
  · exact absurd h h0
  · have hne : some g ≠ u.ownBlock := by
      intro hgu
      by_cases hr : rs = []
      · rw [hn hr] at hgu; cases hgu
      · obtain ⟨g', cp, rfl, _, _⟩ := World.ownsRow.form hu (List.length_pos_iff.2 hr)
        have hgg : g = g' := by injection hgu
        subst hgg
        obtain ⟨x, l', rfl⟩ := List.exists_cons_of_ne_nil h0
        obtain ⟨r, rs', rfl⟩ := List.exists_cons_of_ne_nil hr
        have h1 := hc 0 0 x _ rfl (by decide) rfl
        have h2 := World.ownsRow.cellAt hu 0 (by simp)
        rw [show (0 * 12 + 0 : Nat) = 0 from rfl, h2] at h1
        simp [Rw.v] at h1
    have hal : g < (w2.alloc o).heap.size := by rw [World.size_alloc]; omega
    exact .inr ⟨g, e, Nat.lt_of_lt_of_le hal hg.size, fun i j ev u' h1 h2 h3 => (hg.cell_far ⟨g, i * 12 + j, none⟩ hal hne).trans ((World.cell?_alloc_lt w2 o ⟨g, i * 12 + j, none⟩ hgl).trans (hc i j ev u' h1 h2 h3))⟩
/-- Behind an append: what lies below the row stays. -/
theorem KM.app_low {w w2 w3 : World} {R O : Nat} {p c n b r f g : Int} {u : Value} {rs : List Rw} {o : Obj} (h : KM w w2 R O p c n b r f g u rs) (hO : O < w2.heap.size) (hg : (w2.alloc o).grownBy w3 u.ownBlock) : Below (O + 1) w2 w3 :=
  Below.grown ((Below.refl _ _).alloc (by omega) o) hg (by rw [World.size_alloc]; omega) fun k e => (h.rows.lt k e).1
theorem KM.app {w w2 w3 : World} {R O : Nat} {p c n b r f g : Int} {u v : Value} {rs : List Rw} {q : Rw} {o : Obj} (h : KM w w2 R O p c n b r f g u rs) (hR : R < O) (hw : w.heap.size ≤ O) (hO : O < w2.heap.size)
    (he : EAt w2 q.A (q.L.map evOf)) (hf : q.L ≠ [] → ∀ g, q.A = some ⟨g, 0, none⟩ → O < g) (ho : w3.ownsRow (O + 1) 38 1 v (rs.length + 1) (rs.map Rw.v ++ [q.v])) (hg : (w2.alloc o).grownBy w3 u.ownBlock) : KM w w3 R O p c n b r f g v (rs ++ [q]) := by
  have hb := h.app_low hO hg
  refine ⟨by rw [List.length_append, List.map_append]; exact ho, fun h0 => by simp at h0, fun x hx => ?_, fun x hx => ?_, ?_, ?_⟩
  · rcases List.mem_append.1 hx with h1 | h1
    · exact km_keep (h.evs x h1) h.rows h.nil hg
    · rw [List.mem_singleton.1 h1]; exact km_keep he h.rows h.nil hg
  · rcases List.mem_append.1 hx with h1 | h1
    · exact h.far x h1
    · rw [List.mem_singleton.1 h1]; exact hf
  · exact h.bel.trans (hb.mono (by omega))
  · exact h.blk.via (Nat.le_trans (by rw [World.size_alloc]; omega) hg.size) (hb.block R (by omega))
def PrAt (w : World) (A : Option Addr) (l : List (Int × Int)) : Prop :=
  l = [] ∨ ∃ g, A = some ⟨g, 0, none⟩ ∧ g < w.heap.size ∧ ∀ (i : Nat) (q : Int × Int), l[i]? = some q → w.cell? ⟨g, i * 2, none⟩ = some (.int .i64 q.1) ∧ w.cell? ⟨g, i * 2 + 1, none⟩ = some (.int .i64 q.2)
theorem PrAt.below {w w' : World} {A : Option Addr} {l : List (Int × Int)} (h : PrAt w A l) (hb : Below w.heap.size w w') : PrAt w' A l := by
  rcases h with h | ⟨g, e, hg, hc⟩
  · exact .inl h
  · exact .inr ⟨g, e, Nat.lt_of_lt_of_le hg hb.size, fun i q h => ⟨(hb.cell (p := ⟨g, i * 2, none⟩) hg).trans (hc i q h).1, (hb.cell (p := ⟨g, i * 2 + 1, none⟩) hg).trans (hc i q h).2⟩⟩
theorem PrAt.of_own {w : World} {base c : Nat} {A : Option Addr} {l : List (Int × Int)} (h : w.ownsRow base 57 2 (.slice A l.length c) l.length (prl l)) : PrAt w A l := by
  by_cases h0 : l = []
  · exact .inl h0
  have hl : 0 < l.length := List.length_pos_iff.2 h0
  obtain ⟨g, cap, hv, _, hlt⟩ := World.ownsRow.form h hl
  have hA : A = some ⟨g, 0, none⟩ := by injection hv
  subst hA
  refine .inr ⟨g, rfl, hlt, fun i q hq => ?_⟩
  have hi := (List.getElem?_eq_some_iff.1 hq).1
  obtain ⟨h1, h2⟩ := prl_get l i q hq
  exact ⟨(World.ownsRow.cellAt h (i * 2) (by omega)).trans h1, (World.ownsRow.cellAt h (i * 2 + 1) (by omega)).trans h2⟩
theorem PrAt.at_ {w : World} {A : Option Addr} {l : List (Int × Int)} (h : PrAt w A l) (i : Nat) (q : Int × Int) (hq : l[i]? = some q) : ∃ g, A = some ⟨g, 0, none⟩ ∧ w.cell? ⟨g, i * 2, none⟩ = some (.int .i64 q.1) ∧ w.cell? ⟨g, i * 2 + 1, none⟩ = some (.int .i64 q.2) := by
  rcases h with h | ⟨g, e, hg, hc⟩
  · subst h; simp at hq
  · exact ⟨g, e, (hc i q hq).1, (hc i q hq).2⟩
end Go.Proofs.Ytdlgpbmeeiakdaa

/-
  Rows mixed.
-/
import Derived.Test.YtdlgpbmeeiakdaaRows
import Derived.Test.YtdlgpbmeeiakdaaKit
import Derived.Test.YtdlgpbmeeiakdaaApp
import Derived.Test.YtdlgpbmeeiakdaaEv
import Derived.Test.YtdlgpbmeeiakdaaEvP
import Derived.Test.YtdlgpbmeeiakdaaEvQ
import Derived.Test.YtdlgpbmeeiakdaaEvR
import Derived.Test.YtdlgpbmeeiakdaaQuiet
import Derived.Test.YtdlgpbmeeiakdaaPlA
import Derived.Test.YtdlgpbmeeiakdaaPlB
import Derived.Test.YtdlgpbmeeiakdaaPlF
import Derived.Test.YtdlgpbmeeiakdaaPlI
import Derived.Test.YtdlgpbmeeiakdaaMxA
import Derived.Test.YtdlgpbmeeiakdaaMxB
import Derived.Test.YtdlgpbmeeiakdaaMxC
import Derived.Test.YtdlgpbmeeiakdaaMxD
import Derived.Test.YtdlgpbmeeiakdaaMxE
import Derived.WalkKit
import Derived.ProofKit
import Derived.OpenShut
import Derived.ShutString
import Derived.Below
import Derived.Outline
import Derived.WalkLawsBesides
import Derived.WalkSpells
import Derived.Handy
import Derived.Deep.QuietTactic
import Derived.BigQuiet
import Derived.RegionTactic
import Derived.ChangeAlike
import Derived.Lib.Hide
import Derived.Laws.Rows
import Derived.Laws.Tables
import Derived.Laws.CopyOwn
import Derived.Laws.MakeOwn
import Derived.Laws.Entries
import Derived.Laws.OwnMore
import Derived.Deep.WholeRow
import Derived.Deep.LoopGhost
import Derived.Deep.AppendLies
import Derived.Deep.Draws
import Derived.Maps.AppendAt
import Derived.OwnWalk
import Derived.Deep.RegionHeld3
import Derived.Deep.Cut
import Derived.Deep.CutRange
import Derived.Deep.DeepCutAuto
import Derived.Deep.CutBlock
import Derived.Lib.SliceRun
import Derived.IntWalk
namespace Go.Proofs.Ytdlgpbmeeiakdaa
open Go.ChangeShapes Go.WideShapes Go.ChangeAt Go.RowKit
theorem row_via {w wx : World} {base : Nat} {e : TypeId} {size m : Nat} {v : Value} {xs : List Value} (h : w.ownsRow base e size v m xs) (hk : ∀ b, b < w.heap.size → some b = v.ownBlock → wx.heap[b]? = w.heap[b]?) : wx.ownsRow base e size v m xs := by
  refine ⟨h.1, ?_⟩
  rcases h.2 with h0 | ⟨g, cap, cur, hv, hg, hgh, hr⟩
  · exact .inl h0
  · have hlt : g < w.heap.size := by
      rcases Nat.lt_or_ge g w.heap.size with hlt | hge
      · exact hlt
      · rw [Array.getElem?_eq_none hge] at hgh; cases hgh
    exact .inr ⟨g, cap, cur, hv, hg, (hk g hlt (by rw [hv]; rfl)).trans hgh, hr⟩
/-- The rows that are left ahead of round k. -/
def rsAt (rs : List Rw) : Nat → List Rw
  | 0 => rs
  | k + 1 => rs.filter (kp k)
theorem rsAt_kp (rs : List Rw) (k : Nat) : (rsAt rs k).filter (kp k) = rs.filter (kp k) := by
  cases k with
  | zero => rfl
  | succ k => exact kp_kp k (k + 1) (by omega) rs
theorem rsAt_len (rs : List Rw) (k : Nat) : (rsAt rs k).length ≤ rs.length := by
  cases k with
  | zero => exact Nat.le_refl _
  | succ k => exact List.length_filter_le ..
theorem rsAt_nil (rs : List Rw) (k : Nat) (h : rsAt rs k = []) : ∀ r ∈ rs, r.L.length ≤ k := by
  intro r hr
  cases k with
  | zero => rw [show rs = [] from h] at hr; cases hr
  | succ k =>
    apply Classical.byContradiction
    intro hlt
    have : r ∈ rs.filter (kp k) := List.mem_filter.2 ⟨hr, by unfold kp; rw [decide_eq_true_eq]; omega⟩
    rw [show rs.filter (kp k) = [] from h] at this
    cases this
theorem rsAt_some (rs : List Rw) (k : Nat) (h : rsAt rs k ≠ []) (hL : ∀ r ∈ rs, r.L.length ≤ 50) : k ≤ 50 := by
  cases k with
  | zero => omega
  | succ k =>
    obtain ⟨r, hr⟩ := List.exists_mem_of_ne_nil _ h
    obtain ⟨h1, h2⟩ := List.mem_filter.1 hr
    have := hL r h1
    unfold kp at h2
    rw [decide_eq_true_eq] at h2
    omega
/-- The state of a round: the mixed row so far (v), the rows that are left (u), the round's number. -/
structure MS (w wr : World) (v u : Value) (ib k : Nat) (L : List Int) (F : List Rw) : Prop where
  all : wr.ownsRow w.heap.size 67 12 v L.length (evl (L.map evOf))
  rows : wr.ownsRow w.heap.size 38 1 u F.length (F.map Rw.v)
  num : wr.cell? ⟨ib, 0, none⟩ = some (.int .i64 (k : Int))
  frz : wr.frozen? ⟨ib, 0, none⟩ = false
  ibl : w.heap.size ≤ ib
  bel : Below w.heap.size w wr
  ap1 : ∀ g, v.ownBlock = some g → u.ownBlock ≠ some g
  ap2 : v.ownBlock ≠ some ib
  ap3 : u.ownBlock ≠ some ib
theorem MS.lt {w wr : World} {v u : Value} {ib k : Nat} {L : List Int} {F : List Rw} (h : MS w wr v u ib k L F) : ib < wr.heap.size := by
  rcases Nat.lt_or_ge ib wr.heap.size with h1 | h1
  · exact h1
  · have := h.num
    simp [World.cell?, Array.getElem?_eq_none h1] at this
/-- Behind DeleteFunc. -/
theorem MS.cut {w wr w2 : World} {v : Value} {g n cap n' ib k : Nat} {L : List Int} {F F' : List Rw} (h : MS w wr v (.slice (some ⟨g, 0, none⟩) n cap) ib k L F) (ho : w2.ownsRow w.heap.size 38 1 (.slice (some ⟨g, 0, none⟩) n' cap) F'.length (F'.map Rw.v)) (hb : But wr w2 g) (hg : w.heap.size ≤ g) : MS w w2 v (.slice (some ⟨g, 0, none⟩) n' cap) ib k L F' := by
  have hne : ib ≠ g := fun e => h.ap3 (by rw [e]; rfl)
  refine ⟨row_via h.all (fun b hbl hbv => hb.o b hbl (fun e => h.ap1 b hbv.symm (by rw [e]; rfl))), ho, (hb.cell h.lt hne).trans h.num, (World.frozen?_of_block (hb.o ib h.lt hne)).trans h.frz, h.ibl, ?_, h.ap1, h.ap2, h.ap3⟩
  exact ⟨hb.os.trans h.bel.os, hb.tape.trans h.bel.tape, hb.output.trans h.bel.output, Nat.le_trans h.bel.size hb.size, fun i hi => (hb.o i (Nat.lt_of_lt_of_le hi h.bel.size) (by omega)).trans (h.bel.block i hi)⟩
/-- Behind an append. -/
theorem MS.app {w wr w3 : World} {v v' u : Value} {ib k : Nat} {L : List Int} {x : Int} {F : List Rw} {o : Obj} (h : MS w wr v u ib k L F) (hr : w3.ownsRow w.heap.size 67 12 v' (L.length + 1) (evl (L.map evOf) ++ evc (evOf x))) (hg : (wr.alloc o).grownBy w3 v.ownBlock) (hb : v'.ownBlock = v.ownBlock ∨ v'.ownBlock = some (wr.alloc o).heap.size) : MS w w3 v' u ib k (L ++ [x]) F := by
  have hrows : (wr.alloc o).ownsRow w.heap.size 38 1 u F.length (F.map Rw.v) := World.ownsRow.alloc h.rows o
  have hlt := World.ownsRow.lt hrows
  have hil : ib < (wr.alloc o).heap.size := by rw [World.size_alloc]; have := h.lt; omega
  have hba := h.bel.alloc h.bel.size o
  have hall : (wr.alloc o).ownsRow w.heap.size 67 12 v L.length (evl (L.map evOf)) := World.ownsRow.alloc h.all o
  have hb3 : w3.heap[ib]? = (wr.alloc o).heap[ib]? := hg.block ib hil (fun e => h.ap2 e.symm)
  refine ⟨?_, World.ownsRow.kept hrows hg ?_, ?_, ?_, h.ibl, Below.grown hba hg hba.size (fun g e => (hall.lt g e).1), fun g h1 h2 => ?_, fun h1 => ?_, h.ap3⟩
  · rw [List.length_append, List.map_append, evl_app]
    show w3.ownsRow _ _ _ _ _ (evl (L.map evOf) ++ (evc (evOf x) ++ []))
    rw [List.append_nil]; exact hr
  · rcases hu : u.ownBlock with _ | b
    · exact .inl rfl
    · exact .inr (fun e => h.ap1 b e.symm hu)
  · exact (World.cell?_of_block hb3).trans ((World.cell?_alloc_lt wr o ⟨ib, 0, none⟩ h.lt).trans h.num)
  · exact (World.frozen?_of_block hb3).trans (((Below.refl wr.heap.size wr).alloc (Nat.le_refl _) o).frozen (p := ⟨ib, 0, none⟩) h.lt |>.trans h.frz)
  · rcases hb with hb | hb
    · rw [hb] at h1; exact h.ap1 g h1 h2
    · rw [hb] at h1
      injection h1 with h1
      have := (hlt g h2).2
      omega
  · rcases hb with hb | hb
    · rw [hb] at h1; exact h.ap2 h1
    · rw [hb] at h1
      injection h1 with h1
      omega
end Go.Proofs.Ytdlgpbmeeiakdaa

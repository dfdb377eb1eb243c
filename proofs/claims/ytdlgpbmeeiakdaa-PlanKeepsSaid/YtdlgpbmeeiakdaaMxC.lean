/-
  Rows that have come to their end are taken out.
-/
import Derived.Test.YtdlgpbmeeiakdaaRows
import Derived.Test.YtdlgpbmeeiakdaaKit
import Derived.Test.YtdlgpbmeeiakdaaApp
import Derived.Test.YtdlgpbmeeiakdaaEv
import Derived.Test.YtdlgpbmeeiakdaaEvP
import Derived.Test.YtdlgpbmeeiakdaaEvQ
import Derived.Test.YtdlgpbmeeiakdaaEvR
import Derived.Test.YtdlgpbmeeiakdaaQuiet
import Derived.Test.YtdlgpbmeeiakdaaPlA
import Derived.Test.YtdlgpbmeeiakdaaPlB
import Derived.Test.YtdlgpbmeeiakdaaPlF
import Derived.Test.YtdlgpbmeeiakdaaPlI
import Derived.Test.YtdlgpbmeeiakdaaMxA
import Derived.Test.YtdlgpbmeeiakdaaMxB
import Derived.WalkKit
import Derived.ProofKit
import Derived.OpenShut
import Derived.ShutString
import Derived.Below
import Derived.Outline
import Derived.WalkLawsBesides
import Derived.WalkSpells
import Derived.Handy
import Derived.Deep.QuietTactic
import Derived.BigQuiet
import Derived.RegionTactic
import Derived.ChangeAlike
import Derived.Lib.Hide
import Derived.Laws.Rows
import Derived.Laws.Tables
import Derived.Laws.CopyOwn
import Derived.Laws.MakeOwn
import Derived.Laws.Entries
import Derived.Laws.OwnMore
import Derived.Deep.WholeRow
import Derived.Deep.LoopGhost
import Derived.Deep.AppendLies
import Derived.Deep.Draws
import Derived.Maps.AppendAt
import Derived.OwnWalk
import Derived.Deep.RegionHeld3
import Derived.Deep.Cut
import Derived.Deep.CutRange
import Derived.Deep.DeepCutAuto
import Derived.Deep.CutBlock
import Derived.Lib.SliceRun
import Derived.IntWalk
namespace Go.Proofs.Ytdlgpbmeeiakdaa
open Go.ChangeShapes Go.WideShapes Go.ChangeAt Go.RowKit
/-- All that was there stays, but for block g. -/
structure But (w w' : World) (g : Nat) : Prop where
  os : w'.os = w.os
  tape : w'.tape = w.tape
  output : w'.output = w.output
  size : w.heap.size ≤ w'.heap.size
  o : ∀ k, k < w.heap.size → k ≠ g → w'.heap[k]? = w.heap[k]?
theorem But.refl (w : World) (g : Nat) : But w w g := ⟨rfl, rfl, rfl, Nat.le_refl _, fun _ _ _ => rfl⟩
theorem But.step {w w1 w2 : World} {g : Nat} (h : But w w1 g) (k : But w1 w2 g) : But w w2 g :=
  ⟨k.os.trans h.os, k.tape.trans h.tape, k.output.trans h.output, Nat.le_trans h.size k.size, fun i hi hne => (k.o i (Nat.lt_of_lt_of_le hi h.size) hne).trans (h.o i hi hne)⟩
theorem But.of_below {w w' : World} (g : Nat) (h : Below w.heap.size w w') : But w w' g := ⟨h.os, h.tape, h.output, h.size, fun k hk _ => h.block k hk⟩
theorem But.set (w : World) (g j : Nat) (u : Value) : But w (w.setCell ⟨g, j, none⟩ u) g := ⟨rfl, rfl, rfl, by simp, fun k _ hne => Below.heap_setCell w ⟨g, j, none⟩ u k hne⟩
theorem But.setCells (g : Nat) : ∀ (vs : List Value) (o : Nat) (w : World), But w (w.setCells g o vs) g
  | [], o, w => But.refl w g
  | v :: vs, o, w => (But.set w g o v).step (But.setCells g vs (o + 1) (w.setCell ⟨g, o, none⟩ v))
theorem But.cell {w w' : World} {g : Nat} (h : But w w' g) {b o : Nat} (hb : b < w.heap.size) (hne : b ≠ g) : w'.cell? ⟨b, o, none⟩ = w.cell? ⟨b, o, none⟩ := World.cell?_of_block (h.o b hb hne)
theorem row_setCells {t : TypeId} (g : Nat) : ∀ (vs : List Value) (o : Nat) (w : World) (cs : Array Value), w.heap[g]? = some (.cells cs t (0, 0)) → ∃ cs', (w.setCells g o vs).heap[g]? = some (.cells cs' t (0, 0)) ∧ cs'.size = cs.size ∧ ∀ j, j < o → cs'[j]? = cs[j]?
  | [], o, w, cs, h => ⟨cs, h, rfl, fun _ _ => rfl⟩
  | v :: vs, o, w, cs, h => by
    obtain ⟨cs', h1, h2, h3⟩ := row_setCells g vs (o + 1) (w.setCell ⟨g, o, none⟩ v) (cs.setIfInBounds o v) (blk_set h o v)
    refine ⟨cs', h1, by rw [h2, Array.size_setIfInBounds], fun j hj => ?_⟩
    rw [h3 j (by omega), Array.getElem?_setIfInBounds_ne (by omega)]
/-- The rows while they are taken out: those that stay (F) ahead, those from j on as they were. -/
def Dst (w : World) (g cap : Nat) (rs F : List Rw) (j : Nat) : Prop :=
  ∃ cs : Array Value, w.heap[g]? = some (.cells cs 38 (0, 0)) ∧ cs.size = cap ∧ (∀ (t : Nat) (r : Rw), F[t]? = some r → cs[t]? = some (Rw.v r)) ∧ (∀ (t : Nat) (r : Rw), j ≤ t → rs[t]? = some r → cs[t]? = some (Rw.v r)) ∧ F.length ≤ j
theorem Dst.lt {w : World} {g cap : Nat} {rs F : List Rw} {j : Nat} (h : Dst w g cap rs F j) : g < w.heap.size := by
  obtain ⟨cs, hh, _⟩ := h
  exact blk_lt hh
theorem Dst.below {w w' : World} {g cap : Nat} {rs F : List Rw} {j : Nat} (h : Dst w g cap rs F j) (hb : Below w.heap.size w w') : Dst w' g cap rs F j := by
  have hl := h.lt
  obtain ⟨cs, hh, hr⟩ := h
  exact ⟨cs, (hb.block g hl).trans hh, hr⟩
theorem Dst.at_ {w : World} {g cap : Nat} {rs F : List Rw} {j : Nat} (h : Dst w g cap rs F j) (r : Rw) (hr : rs[j]? = some r) : w.cell? ⟨g, j, none⟩ = some r.v := by
  obtain ⟨cs, hh, _, _, h2, _⟩ := h
  rw [cell_of_row _ _ _ _ _ _ hh]; exact h2 j r (Nat.le_refl _) hr
theorem Dst.skip {w : World} {g cap : Nat} {rs F : List Rw} {j : Nat} (h : Dst w g cap rs F j) : Dst w g cap rs F (j + 1) := by
  obtain ⟨cs, hh, hs, h1, h2, h3⟩ := h
  exact ⟨cs, hh, hs, h1, fun t r ht hr => h2 t r (by omega) hr, by omega⟩
theorem Dst.keep {w : World} {g cap : Nat} {rs F : List Rw} {j : Nat} (h : Dst w g cap rs F j) (r : Rw) (hr : rs[j]? = some r) (hc : rs.length ≤ cap) : Dst (w.setCell ⟨g, F.length, none⟩ r.v) g cap rs (F ++ [r]) (j + 1) := by
  have hj := (List.getElem?_eq_some_iff.1 hr).1
  obtain ⟨cs, hh, hs, h1, h2, h3⟩ := h
  refine ⟨_, blk_set hh F.length r.v, by rw [Array.size_setIfInBounds]; exact hs, fun t r' ht => ?_, fun t r' ht hr' => ?_, by rw [List.length_append]; show F.length + 1 ≤ _; omega⟩
  · by_cases htF : t < F.length
    · rw [List.getElem?_append_left htF] at ht
      rw [Array.getElem?_setIfInBounds_ne (by omega)]; exact h1 t r' ht
    · rw [List.getElem?_append_right (by omega)] at ht
      have : t = F.length := by
        have := (List.getElem?_eq_some_iff.1 ht).1
        have h4 : t - F.length < 1 := this
        omega
      subst this
      rw [Nat.sub_self] at ht
      have : r = r' := by simpa using ht
      subst this
      rw [Array.getElem?_setIfInBounds_self_of_lt (by omega)]
  · rw [Array.getElem?_setIfInBounds_ne (by omega)]; exact h2 t r' (by omega) hr'
theorem Dst.cellF {w : World} {g cap : Nat} {rs F : List Rw} {j : Nat} (h : Dst w g cap rs F j) (t : Nat) (ht : t < cap) : (w.cell? ⟨g, t, none⟩).isSome = true ∧ w.frozen? ⟨g, t, none⟩ = false := by
  obtain ⟨cs, hh, hs, _⟩ := h
  refine ⟨?_, blk_frozen hh t⟩
  rw [cell_of_row _ _ _ _ _ _ hh, Array.getElem?_eq_getElem (by omega)]
  rfl
/-- What is left is a row of its own. -/
theorem Dst.own {w : World} {g cap : Nat} {rs F : List Rw} {j base : Nat} (h : Dst w g cap rs F j) (m : Nat) (hg : base ≤ g) (hF : F.length ≤ cap) (hm : cap ≤ maxLen) : (w.setCells g F.length (List.replicate m (.slice none 0 0))).ownsRow base 38 1 (.slice (some ⟨g, 0, none⟩) F.length cap) F.length (F.map Rw.v) := by
  obtain ⟨cs, hh, hs, h1, _, _⟩ := h
  obtain ⟨cs', h4, h5, h6⟩ := row_setCells g (List.replicate m (.slice none 0 0)) F.length w cs hh
  refine ⟨by simp, .inr ⟨g, cap, cs', rfl, hg, h4, hF, hm, by omega, ?_⟩⟩
  apply List.ext_getElem?
  intro t
  rw [Nat.mul_one]
  by_cases ht : t < F.length
  · rw [List.getElem?_take_of_lt ht, Array.getElem?_toList, h6 t ht, List.getElem?_map]
    rw [List.getElem?_eq_getElem ht, h1 t F[t] (List.getElem?_eq_getElem ht)]
    rfl
  · rw [List.getElem?_eq_none (by simp; omega), List.getElem?_eq_none (by simp; omega)]
end Go.Proofs.Ytdlgpbmeeiakdaa

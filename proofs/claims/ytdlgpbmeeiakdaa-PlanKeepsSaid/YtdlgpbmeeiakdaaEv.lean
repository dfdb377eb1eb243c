/-
  Rows of events (picks and ticks) as lists.
-/
import Derived.Test.YtdlgpbmeeiakdaaRows
import Derived.WalkKit
import Derived.ProofKit
import Derived.OpenShut
import Derived.ShutString
import Derived.Below
import Derived.Outline
import Derived.WalkLawsBesides
import Derived.WalkSpells
import Derived.Handy
import Derived.Deep.QuietTactic
import Derived.BigQuiet
import Derived.RegionTactic
import Derived.ChangeAlike
import Derived.Lib.Hide
import Derived.Laws.Rows
import Derived.Laws.Tables
import Derived.Laws.CopyOwn
import Derived.Laws.MakeOwn
import Derived.Laws.Entries
import Derived.Laws.OwnMore
import Derived.Deep.WholeRow
import Derived.Deep.LoopGhost
import Derived.Deep.AppendLies
import Derived.Deep.Draws
import Derived.Maps.AppendAt
import Derived.OwnWalk
import Derived.Deep.RegionHeld3
import Derived.Deep.Cut
import Derived.Deep.CutRange
import Derived.Deep.DeepCutAuto
import Derived.Deep.CutBlock
import Derived.Lib.SliceRun
import Derived.IntWalk
import Derived.Test.YtdlgpbmeeiakdaaKit
import Derived.Test.YtdlgpbmeeiakdaaApp
namespace Go.Proofs.Ytdlgpbmeeiakdaa
open Go.ChangeShapes Go.WideShapes Go.ChangeAt Go.RowKit
/-- An event without an ask: its kind, who, how many. -/
abbrev Ev := Int × Int × Int
def evc (e : Ev) : List Value := [.int .i64 e.1, .int .i64 e.2.1, .int .i64 e.2.2, .int .i64 0, .int .i64 0, .int .i64 0, .int .i64 0, .int .i64 0, .int .i64 0, .int .i64 0, .int .i64 0, .int .i64 0]
def evl : List Ev → List Value
  | [] => []
  | e :: l => evc e ++ evl l
theorem evl_len : ∀ l : List Ev, (evl l).length = l.length * 12
  | [] => rfl
  | e :: l => by
    show (evc e ++ evl l).length = (l.length + 1) * 12
    rw [List.length_append, evl_len l]
    show 12 + l.length * 12 = _
    omega
theorem evl_app : ∀ l m : List Ev, evl (l ++ m) = evl l ++ evl m
  | [], _ => rfl
  | e :: l, m => by
    show evc e ++ evl (l ++ m) = evc e ++ evl l ++ evl m
    rw [evl_app l m, List.append_assoc]
theorem evl_snoc (l : List Ev) (e : Ev) : evl (l ++ [e]) = evl l ++ evc e := by
  rw [evl_app]
  show evl l ++ (evc e ++ []) = _
  rw [List.append_nil]
theorem evl_one : ∀ l : List Ev, ∀ u ∈ evl l, u.oneCell' = true
  | [], u, h => by cases h
  | e :: l, u, h => by
    rcases List.mem_append.1 h with h1 | h1
    · simp only [evc, List.mem_cons, List.not_mem_nil, or_false] at h1
      rcases h1 with h | h | h | h | h | h | h | h | h | h | h | h <;> (subst h; rfl)
    · exact evl_one l u h1
theorem evl_get : ∀ (l : List Ev) (i : Nat) (e : Ev) (j : Nat), l[i]? = some e → j < 12 → (evl l)[i * 12 + j]? = (evc e)[j]?
  | [], i, e, j, h, _ => by cases h
  | x :: l, 0, e, j, h, hj => by
    have hx : x = e := by simpa using h
    subst hx
    show (evc x ++ evl l)[0 * 12 + j]? = _
    rw [Nat.zero_mul, Nat.zero_add, List.getElem?_append_left (by show j < 12; exact hj)]
  | x :: l, i + 1, e, j, h, hj => by
    have h' : l[i]? = some e := by simpa using h
    show (evc x ++ evl l)[(i + 1) * 12 + j]? = _
    rw [List.getElem?_append_right (by show 12 ≤ _; omega)]
    rw [show (i + 1) * 12 + j - (evc x).length = i * 12 + j from by show (i + 1) * 12 + j - 12 = _; omega]
    exact evl_get l i e j h' hj
/-- A slice of events that reads as a list: its block, from the beginning on. -/
def EAt (w : World) (A : Option Addr) (l : List Ev) : Prop :=
  l = [] ∨ ∃ g, A = some ⟨g, 0, none⟩ ∧ g < w.heap.size ∧ ∀ (i j : Nat) (e : Ev) (u : Value), l[i]? = some e → j < 12 → (evc e)[j]? = some u → w.cell? ⟨g, i * 12 + j, none⟩ = some u
theorem EAt.below {w w' : World} {A : Option Addr} {l : List Ev} (h : EAt w A l) (hb : Below w.heap.size w w') : EAt w' A l := by
  rcases h with h | ⟨g, e, hg, hc⟩
  · exact .inl h
  · exact .inr ⟨g, e, Nat.lt_of_lt_of_le hg hb.size, fun i j x u h1 h2 h3 => (hb.cell (p := ⟨g, i * 12 + j, none⟩) hg).trans (hc i j x u h1 h2 h3)⟩
theorem EAt.of_own {w : World} {base c : Nat} {t : TypeId} {A : Option Addr} {l : List Ev} (h : w.ownsRow base t 12 (.slice A l.length c) l.length (evl l)) : EAt w A l := by
  by_cases h0 : l = []
  · exact .inl h0
  have hl : 0 < l.length := List.length_pos_iff.2 h0
  obtain ⟨g, cap, hv, _, hlt⟩ := World.ownsRow.form h hl
  have hA : A = some ⟨g, 0, none⟩ := by injection hv
  subst hA
  refine .inr ⟨g, rfl, hlt, fun i j e u h1 h2 h3 => ?_⟩
  have h4 := World.ownsRow.cells h (g := g) rfl (i * 12 + j) u (by rw [evl_get l i e j h1 h2]; exact h3)
  by_cases hz : i * 12 + j = 0
  · rw [hz] at h4 ⊢
    simpa [Addr.add] using h4
  · have hz2 : ¬ (i * 12 = 0 ∧ j = 0) := by omega
    simpa [Addr.add, hz, hz2] using h4
/-- The twelve cells of an event in a row. -/
theorem EAt.cells {w : World} {A : Option Addr} {l : List Ev} (h : EAt w A l) (i : Nat) (e : Ev) (he : l[i]? = some e) : ∃ g, A = some ⟨g, 0, none⟩ ∧ g < w.heap.size ∧ w.cell? ⟨g, i * 12, none⟩ = some (.int .i64 e.1) ∧ w.cell? ⟨g, i * 12 + 1, none⟩ = some (.int .i64 e.2.1) ∧ w.cell? ⟨g, i * 12 + 2, none⟩ = some (.int .i64 e.2.2) ∧ w.cell? ⟨g, i * 12 + 3, none⟩ = some (.int .i64 0) ∧ w.cell? ⟨g, i * 12 + 4, none⟩ = some (.int .i64 0) ∧ w.cell? ⟨g, i * 12 + 5, none⟩ = some (.int .i64 0) ∧ w.cell? ⟨g, i * 12 + 6, none⟩ = some (.int .i64 0) ∧ w.cell? ⟨g, i * 12 + 7, none⟩ = some (.int .i64 0) ∧ w.cell? ⟨g, i * 12 + 8, none⟩ = some (.int .i64 0) ∧ w.cell? ⟨g, i * 12 + 9, none⟩ = some (.int .i64 0) ∧ w.cell? ⟨g, i * 12 + 10, none⟩ = some (.int .i64 0) ∧ w.cell? ⟨g, i * 12 + 11, none⟩ = some (.int .i64 0) := by
  rcases h with h | ⟨g, ea, hg, hc⟩
  · subst h; cases he
  · exact ⟨g, ea, hg, hc i 0 e _ he (by decide) rfl, hc i 1 e _ he (by decide) rfl, hc i 2 e _ he (by decide) rfl, hc i 3 e _ he (by decide) rfl, hc i 4 e _ he (by decide) rfl, hc i 5 e _ he (by decide) rfl, hc i 6 e _ he (by decide) rfl, hc i 7 e _ he (by decide) rfl, hc i 8 e _ he (by decide) rfl, hc i 9 e _ he (by decide) rfl, hc i 10 e _ he (by decide) rfl, hc i 11 e _ he (by decide) rfl⟩
end Go.Proofs.Ytdlgpbmeeiakdaa

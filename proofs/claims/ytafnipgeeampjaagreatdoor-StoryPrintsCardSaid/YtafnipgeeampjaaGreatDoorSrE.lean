/-
  Events as cells: no program.
-/
import Derived.Test.YtafnipgeeampjaaGreatDoorRows
import Derived.Test.YtafnipgeeampjaaGreatDoorKit
import Derived.Test.YtafnipgeeampjaaGreatDoorApp
import Derived.Test.YtafnipgeeampjaaGreatDoorQuiet
import Derived.WalkKit
import Derived.ProofKit
import Derived.OpenShut
import Derived.ShutString
import Derived.Below
import Derived.Outline
import Derived.WalkLawsBesides
import Derived.WalkSpells
import Derived.Handy
import Derived.Deep.QuietTactic
import Derived.BigQuiet
import Derived.RegionTactic
import Derived.ChangeAlike
import Derived.Lib.Hide
import Derived.Laws.Rows
import Derived.Laws.Tables
import Derived.Laws.CopyOwn
import Derived.Laws.MakeOwn
import Derived.Laws.Entries
import Derived.Laws.OwnMore
import Derived.Deep.WholeRow
import Derived.Deep.LoopGhost
import Derived.Deep.AppendLies
import Derived.Deep.Draws
import Derived.Maps.AppendAt
import Derived.OwnWalk
import Derived.Deep.RegionHeld3
import Derived.Deep.Cut
import Derived.Deep.CutRange
import Derived.Deep.DeepCutAuto
import Derived.Deep.CutBlock
import Derived.Lib.SliceRun
import Derived.IntWalk
import Derived.Laws.Strings
import Derived.Lib.Bytealg
import Derived.Lib.Strings
import Derived.Laws.Externs
import Derived.Test.YtafnipgeeampjaaGreatDoorLnB
import Derived.Test.YtafnipgeeampjaaGreatDoorLnD
import Derived.Test.YtafnipgeeampjaaGreatDoorLnG
import Derived.Lib.SplitLaws
import Derived.Shelf.Strings.Split
import Derived.Test.YtafnipgeeampjaaGreatDoorSrS
import Derived.Lib.Join
namespace Go.Proofs.YtafnipgeeampjaaGreatDoor
open Go.ChangeShapes Go.WideShapes Go.ChangeAt Go.RowKit
/-- An event's cells, and a row's. -/
def evc (e : Sev) : List Value := [.int .i64 e.k, .int .i64 e.who, .int .i64 e.n, .string (Bs e.line)]
def evs (l : List Sev) : List Value := l.flatMap evc
theorem evs_nil : evs [] = [] := rfl
theorem evs_cons (e : Sev) (l : List Sev) : evs (e :: l) = evc e ++ evs l := rfl
theorem evs_app (a b : List Sev) : evs (a ++ b) = evs a ++ evs b := by simp [evs]
theorem evs_len (l : List Sev) : (evs l).length = l.length * 4 := by
  induction l with
  | nil => rfl
  | cons x t ih => simp [evs, evc] at ih ⊢; omega
theorem evs_get : ∀ (l : List Sev) (k : Nat) (e : Sev), l[k]? = some e → (evs l)[k * 4]? = some (.int .i64 e.k) ∧ (evs l)[k * 4 + 1]? = some (.int .i64 e.who) ∧ (evs l)[k * 4 + 2]? = some (.int .i64 e.n) ∧ (evs l)[k * 4 + 3]? = some (.string (Bs e.line))
  | [], k, e, h => by simp at h
  | y :: t, 0, e, h => by
    simp at h
    subst h
    exact ⟨rfl, rfl, rfl, rfl⟩
  | y :: t, k + 1, e, h => by
    have ih := evs_get t k e (by simpa using h)
    rw [evs_cons, show (k + 1) * 4 = k * 4 + 1 + 1 + 1 + 1 by omega]
    exact ih
theorem evs_rep (n : Nat) (e : Sev) : evs (List.replicate (n + 1) e) = evc e ++ evs (List.replicate n e) := rfl
theorem Bs_inj {a b : List UInt8} (h : Bs a = Bs b) : a = b := by
  have := congrArg (fun s : ByteArray => s.data.toList) h
  simpa [Bs_list] using this
/-- Two events are the same just if their cells are. -/
theorem evc_inj {a b : Sev} (h : evc a = evc b) : a = b := by
  obtain ⟨k, who, n, line⟩ := a
  obtain ⟨k', who', n', line'⟩ := b
  simp only [evc, List.cons.injEq, Value.int.injEq, Value.string.injEq] at h
  obtain ⟨⟨_, rfl⟩, ⟨_, rfl⟩, ⟨_, rfl⟩, h4, _⟩ := h
  rw [Bs_inj h4]
theorem evs_inj : ∀ {a b : List Sev}, evs a = evs b → a = b
  | [], [], _ => rfl
  | [], y :: t, h => by
    have := congrArg List.length h
    rw [evs_len, evs_len] at this
    simp at this
  | x :: s, [], h => by
    have := congrArg List.length h
    rw [evs_len, evs_len] at this
    simp at this
  | x :: s, y :: t, h => by
    rw [evs_cons, evs_cons] at h
    have h1 := List.append_inj_left h rfl
    have h2 := List.append_inj_right h rfl
    rw [evc_inj h1, evs_inj h2]

end Go.Proofs.YtafnipgeeampjaaGreatDoor

/-
  An error with a word ahead.
-/
import Derived.Test.YtafnipgeeampjaaDoorRows
import Derived.Test.YtafnipgeeampjaaDoorKit
import Derived.Test.YtafnipgeeampjaaDoorApp
import Derived.Test.YtafnipgeeampjaaDoorQuiet
import Derived.WalkKit
import Derived.ProofKit
import Derived.OpenShut
import Derived.ShutString
import Derived.Below
import Derived.Outline
import Derived.WalkLawsBesides
import Derived.WalkSpells
import Derived.Handy
import Derived.Deep.QuietTactic
import Derived.BigQuiet
import Derived.RegionTactic
import Derived.ChangeAlike
import Derived.Lib.Hide
import Derived.Laws.Rows
import Derived.Laws.Tables
import Derived.Laws.CopyOwn
import Derived.Laws.MakeOwn
import Derived.Laws.Entries
import Derived.Laws.OwnMore
import Derived.Deep.WholeRow
import Derived.Deep.LoopGhost
import Derived.Deep.AppendLies
import Derived.Deep.Draws
import Derived.Maps.AppendAt
import Derived.OwnWalk
import Derived.Deep.RegionHeld3
import Derived.Deep.Cut
import Derived.Deep.CutRange
import Derived.Deep.DeepCutAuto
import Derived.Deep.CutBlock
import Derived.Lib.SliceRun
import Derived.IntWalk
import Derived.Laws.Strings
import Derived.Lib.Bytealg
import Derived.Lib.Strings
import Derived.Laws.Externs
import Derived.Test.YtafnipgeeampjaaDoorSrM
import Derived.Test.YtafnipgeeampjaaDoorSrK
namespace Go.Proofs.YtafnipgeeampjaaDoor
open Go.ChangeShapes Go.WideShapes Go.ChangeAt Go.RowKit
/-- An error that 'Parse' gives: this seat needs no more of it than that it is one. -/
def PErr (_i _c _p : Nat) (v : Value) (_w : World) : Prop := ∃ t u, v = .iface t u
theorem PErr.ne {i c p : Nat} {v : Value} {w : World} (h : PErr i c p v w) : ∃ t u, v = .iface t u := h
theorem PErr.below {i c p : Nat} {v : Value} {w w' : World} (h : PErr i c p v w) (_hb : Below w.heap.size w w') : PErr i c p v w' := h
theorem with_is (i c p : Nat) (v : Value) (w : World) (h : Er w (c : Int) (p : Int) v) : Calls Tryd.prog 8 #[.string (Bs (dcl i)), v] w fun e w' => ∃ u, e = .returned u ∧ PErr i c p u w' ∧ Below w.heap.size w w' := by
  obtain ⟨b, rfl, _⟩ := h
  go_enter Tryd.func8, Tryd.ntmps8
  go_wp2_with fail
  go_ret
  exact ⟨_, rfl, ⟨_, _, rfl⟩, by go_grown⟩

end Go.Proofs.YtafnipgeeampjaaDoor

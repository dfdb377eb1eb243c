/-
  An error with a word ahead.
-/
import Derived.Test.YtafnipgeeampjaaGreatDoorRows
import Derived.Test.YtafnipgeeampjaaGreatDoorKit
import Derived.Test.YtafnipgeeampjaaGreatDoorApp
import Derived.Test.YtafnipgeeampjaaGreatDoorQuiet
import Derived.WalkKit
import Derived.ProofKit
import Derived.OpenShut
import Derived.ShutString
import Derived.Below
import Derived.Outline
import Derived.WalkLawsBesides
import Derived.WalkSpells
import Derived.Handy
import Derived.Deep.QuietTactic
import Derived.BigQuiet
import Derived.RegionTactic
import Derived.ChangeAlike
import Derived.Lib.Hide
import Derived.Laws.Rows
import Derived.Laws.Tables
import Derived.Laws.CopyOwn
import Derived.Laws.MakeOwn
import Derived.Laws.Entries
import Derived.Laws.OwnMore
import Derived.Deep.WholeRow
import Derived.Deep.LoopGhost
import Derived.Deep.AppendLies
import Derived.Deep.Draws
import Derived.Maps.AppendAt
import Derived.OwnWalk
import Derived.Deep.RegionHeld3
import Derived.Deep.Cut
import Derived.Deep.CutRange
import Derived.Deep.DeepCutAuto
import Derived.Deep.CutBlock
import Derived.Lib.SliceRun
import Derived.IntWalk
import Derived.Laws.Strings
import Derived.Lib.Bytealg
import Derived.Lib.Strings
import Derived.Laws.Externs
import Derived.Test.YtafnipgeeampjaaGreatDoorSrM
import Derived.Test.YtafnipgeeampjaaGreatDoorSrK
import Derived.Test.YtafnipgeeampjaaGreatDoorGsE
namespace Go.Proofs.YtafnipgeeampjaaGreatDoor
open Go.ChangeShapes Go.WideShapes Go.ChangeAt Go.RowKit
/-- An error that 'Parse' gives: the line's number ahead of a place ahead of a code. -/
def PErr (i c p : Nat) (v : Value) (w : World) : Prop := Ch w (c : Int) [.wo (Bs (dcl i)), .pl (p : Int)] v
theorem PErr.ne {i c p : Nat} {v : Value} {w : World} (h : PErr i c p v w) : ∃ t u, v = .iface t u := Ch.iface h
theorem PErr.below {i c p : Nat} {v : Value} {w w' : World} (h : PErr i c p v w) (hb : Below w.heap.size w w') : PErr i c p v w' := Ch.below h hb
theorem er_ch {c p : Nat} {v : Value} {w : World} (h : Er w (c : Int) (p : Int) v) : Ch w (c : Int) [.pl (p : Int)] v := by
  obtain ⟨b, e, hl, h0, h1⟩ := h
  exact ⟨b, _, e, hl, h0, h1, rfl⟩
theorem with_is (i c p : Nat) (v : Value) (w : World) (h : Er w (c : Int) (p : Int) v) : Calls Tryz.prog 16 #[.string (Bs (dcl i)), v] w fun e w' => ∃ u, e = .returned u ∧ PErr i c p u w' ∧ Below w.heap.size w w' := by
  refine (with_ch (Bs (dcl i)) [.pl (p : Int)] (c : Int) v w (er_ch h)).mono ?_
  rintro e w' hh
  exact hh

end Go.Proofs.YtafnipgeeampjaaGreatDoor

/-
  What a turn gives.
-/
import Derived.Test.YtgeognijglahfaaRows
import Derived.WalkKit
import Derived.ProofKit
import Derived.OpenShut
import Derived.ShutString
import Derived.Below
import Derived.Outline
import Derived.WalkLawsBesides
import Derived.WalkSpells
import Derived.Handy
import Derived.Deep.QuietTactic
import Derived.BigQuiet
import Derived.RegionTactic
import Derived.ChangeAlike
import Derived.Lib.Hide
import Derived.Test.YtgeognijglahfaaKit
namespace Go.Proofs.Ytgeognijglahfaa
open Go.ChangeShapes Go.WideShapes Go.ChangeAt Go.RowKit
/-- A state, and what goes with it; what was there stays. -/
def Gives (w : World) (k g l f : Int) (b : Bool) (x : Value) (e : Ending) (w' : World) : Prop :=
  e = .returned (.tuple #[.agg #[.int .i64 k, .bool b, .int .i64 g, .int .i64 l, .int .i64 f], x]) ∧ Below w.heap.size w w'
end Go.Proofs.Ytgeognijglahfaa

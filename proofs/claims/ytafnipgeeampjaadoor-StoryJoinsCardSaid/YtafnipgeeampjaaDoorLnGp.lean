/-
  A decimal number as bytes: no program.
-/
import Derived.Test.YtafnipgeeampjaaDoorRows
import Derived.Test.YtafnipgeeampjaaDoorKit
import Derived.Test.YtafnipgeeampjaaDoorApp
import Derived.Test.YtafnipgeeampjaaDoorQuiet
import Derived.WalkKit
import Derived.ProofKit
import Derived.OpenShut
import Derived.ShutString
import Derived.Below
import Derived.Outline
import Derived.WalkLawsBesides
import Derived.WalkSpells
import Derived.Handy
import Derived.Deep.QuietTactic
import Derived.BigQuiet
import Derived.RegionTactic
import Derived.ChangeAlike
import Derived.Lib.Hide
import Derived.Laws.Rows
import Derived.Laws.Tables
import Derived.Laws.CopyOwn
import Derived.Laws.MakeOwn
import Derived.Laws.Entries
import Derived.Laws.OwnMore
import Derived.Deep.WholeRow
import Derived.Deep.LoopGhost
import Derived.Deep.AppendLies
import Derived.Deep.Draws
import Derived.Maps.AppendAt
import Derived.OwnWalk
import Derived.Deep.RegionHeld3
import Derived.Deep.Cut
import Derived.Deep.CutRange
import Derived.Deep.DeepCutAuto
import Derived.Deep.CutBlock
import Derived.Lib.SliceRun
import Derived.IntWalk
import Derived.Laws.Strings
import Derived.Lib.Bytealg
import Derived.Lib.Strings
import Derived.Laws.Externs
import Derived.Test.YtafnipgeeampjaaDoorLnD
import Derived.Laws.Externs
import Derived.Laws.IdiomStrings
namespace Go.Proofs.YtafnipgeeampjaaDoor
open Go.ChangeShapes Go.WideShapes Go.ChangeAt Go.RowKit
def dg (n : Nat) : UInt8 := UInt8.ofNat (48 + n)
/-- A number's digits. -/
def dcl (n : Nat) : List UInt8 := if h : n < 10 then [dg n] else dcl (n / 10) ++ [dg (n % 10)]
termination_by n
decreasing_by omega
theorem dcl_small {n : Nat} (h : n < 10) : dcl n = [dg n] := by rw [dcl, dif_pos h]
theorem dcl_big {n : Nat} (h : ¬ n < 10) : dcl n = dcl (n / 10) ++ [dg (n % 10)] := by rw [dcl, dif_neg h]
theorem dcl_len : ∀ (k n : Nat), n < 10 ^ (k + 1) → (dcl n).length ≤ k + 1
  | 0, n, h => by rw [dcl_small (by simpa using h)]; simp
  | k + 1, n, h => by
    by_cases h1 : n < 10
    · rw [dcl_small h1]; simp
    · rw [dcl_big h1]
      have := dcl_len k (n / 10) (by rw [Nat.pow_succ] at h; omega)
      simp; omega
theorem ofNat_dig {n : Nat} (h : n < 10) : (dg n).toNat = 48 + n := by
  unfold dg
  rw [UInt8.toNat_ofNat']
  omega
theorem Bs_append (a b : List UInt8) : Bs a ++ Bs b = Bs (a ++ b) := by
  have e : ∀ x y : ByteArray, x.data.toList = y.data.toList → x = y := fun x y h => by rw [← Bs_of x, ← Bs_of y, h]
  apply e
  simp [Bs]

end Go.Proofs.YtafnipgeeampjaaDoor

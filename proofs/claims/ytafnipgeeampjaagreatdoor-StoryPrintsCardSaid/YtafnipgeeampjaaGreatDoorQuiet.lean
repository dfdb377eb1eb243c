/-
  A region that only reads and calls, in whatever order, from any world on: what was there stays.
-/
import Derived.Test.YtafnipgeeampjaaGreatDoorRows
import Derived.WalkKit
import Derived.ProofKit
import Derived.OpenShut
import Derived.Below
import Derived.Handy
import Derived.Deep.QuietTactic
import Derived.BigQuiet
import Derived.RegionTactic
import Derived.Lib.Hide
import Derived.Test.YtafnipgeeampjaaGreatDoorKit
namespace Go.Proofs.YtafnipgeeampjaaGreatDoor
open Go.ChangeShapes Go.WideShapes Go.ChangeAt Go.RowKit
/-- What was there stays. -/
def Sc (W wx : World) : Prop := Below W.heap.size W wx
theorem region_sc {P : Program} {id : Nat} {Q : Exit → Act → World → Prop} {a : Act} {W : World} {l' : List Oper} (hm : P.follows .mixedOrders = true) (hB : Region.lexB .any l'.toArray = true)
    (h : wpQuiet P l'.toArray (Sc W) (fun a' => ∀ w', Sc W w' → Q .normal a' w') l' a) : (Code.region id l'.toArray true).wp P Q a W := wp_region_quiet (C := Sc W) hm hB (Below.drew (Below.refl _ _)) (by simpa using h)
theorem Sc.call {P : Program} {f : Nat} {args : Array Value} {v : Value} {W wq : World} (hc : ∀ w, Calls P f args w fun e w' => e = .returned v ∧ Below w.heap.size w w') (hq : Sc W wq) :
    Calls P f args wq fun e w' => e = .returned v ∧ Sc W w' := (hc wq).mono fun _ _ ⟨he, hb⟩ => ⟨he, Below.step hq hb⟩
end Go.Proofs.YtafnipgeeampjaaGreatDoor

/-
  Events and lines in memory: no program.
-/
import Derived.Test.YtafnipgeeampjaaGreatDoorRows
import Derived.Test.YtafnipgeeampjaaGreatDoorKit
import Derived.Test.YtafnipgeeampjaaGreatDoorApp
import Derived.Test.YtafnipgeeampjaaGreatDoorQuiet
import Derived.WalkKit
import Derived.ProofKit
import Derived.OpenShut
import Derived.ShutString
import Derived.Below
import Derived.Outline
import Derived.WalkLawsBesides
import Derived.WalkSpells
import Derived.Handy
import Derived.Deep.QuietTactic
import Derived.BigQuiet
import Derived.RegionTactic
import Derived.ChangeAlike
import Derived.Lib.Hide
import Derived.Laws.Rows
import Derived.Laws.Tables
import Derived.Laws.CopyOwn
import Derived.Laws.MakeOwn
import Derived.Laws.Entries
import Derived.Laws.OwnMore
import Derived.Deep.WholeRow
import Derived.Deep.LoopGhost
import Derived.Deep.AppendLies
import Derived.Deep.Draws
import Derived.Maps.AppendAt
import Derived.OwnWalk
import Derived.Deep.RegionHeld3
import Derived.Deep.Cut
import Derived.Deep.CutRange
import Derived.Deep.DeepCutAuto
import Derived.Deep.CutBlock
import Derived.Lib.SliceRun
import Derived.IntWalk
import Derived.Laws.Strings
import Derived.Lib.Bytealg
import Derived.Lib.Strings
import Derived.Laws.Externs
import Derived.Test.YtafnipgeeampjaaGreatDoorLnB
import Derived.Test.YtafnipgeeampjaaGreatDoorLnD
import Derived.Test.YtafnipgeeampjaaGreatDoorLnG
import Derived.Lib.SplitLaws
import Derived.Shelf.Strings.Split
import Derived.Test.YtafnipgeeampjaaGreatDoorSrE
import Derived.Lib.Join
namespace Go.Proofs.YtafnipgeeampjaaGreatDoor
open Go.ChangeShapes Go.WideShapes Go.ChangeAt Go.RowKit
/-- Events in memory. -/
def SvAt (A : Option Addr) (L : List Sev) (w : World) : Prop := 0 < L.length → ∃ ad, A = some ad ∧ ad.block < w.heap.size ∧ ∀ (i : Nat) (e : Sev), L[i]? = some e → w.cell? (ad.add (i * 4)) = some (.int .i64 e.k) ∧ w.cell? (ad.add (i * 4 + 1)) = some (.int .i64 e.who) ∧ w.cell? (ad.add (i * 4 + 2)) = some (.int .i64 e.n) ∧ w.cell? (ad.add (i * 4 + 3)) = some (.string (Bs e.line))
theorem SvAt.below {A : Option Addr} {L : List Sev} {w w' : World} (h : SvAt A L w) (hb : Below w.heap.size w w') : SvAt A L w' := fun h0 => by
  obtain ⟨ad, e, hl, hc⟩ := h h0
  refine ⟨ad, e, Nat.lt_of_lt_of_le hl hb.size, fun i x hi => ?_⟩
  obtain ⟨c0, c1, c2, c3⟩ := hc i x hi
  have hlt : ∀ k, (ad.add k).block < w.heap.size := fun k => by rw [block_of_add]; exact hl
  exact ⟨(hb.cell (hlt _)).trans c0, (hb.cell (hlt _)).trans c1, (hb.cell (hlt _)).trans c2, (hb.cell (hlt _)).trans c3⟩
theorem SvAt.nil (A : Option Addr) (w : World) : SvAt A [] w := fun h => absurd h (by simp)
/-- Lines in memory. -/
def StAt (A : Option Addr) (L : List (List UInt8)) (w : World) : Prop := 0 < L.length → ∃ ad, A = some ad ∧ ad.block < w.heap.size ∧ ∀ (i : Nat) (x : List UInt8), L[i]? = some x → w.cell? (ad.add i) = some (.string (Bs x))
theorem StAt.below {A : Option Addr} {L : List (List UInt8)} {w w' : World} (h : StAt A L w) (hb : Below w.heap.size w w') : StAt A L w' := fun h0 => by
  obtain ⟨ad, e, hl, hc⟩ := h h0
  refine ⟨ad, e, Nat.lt_of_lt_of_le hl hb.size, fun i x hi => ?_⟩
  have hlt : (ad.add i).block < w.heap.size := by rw [block_of_add]; exact hl
  exact (hb.cell hlt).trans (hc i x hi)
theorem StAt.nil (A : Option Addr) (w : World) : StAt A [] w := fun h => absurd h (by simp)

end Go.Proofs.YtafnipgeeampjaaGreatDoor

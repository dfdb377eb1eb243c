/-
  FaultDeep: the walk.
-/
import Derived.Test.YtjkojbaphdlhlaaDoorRows
import Derived.Test.YtjkojbaphdlhlaaDoorKit
import Derived.Test.YtjkojbaphdlhlaaDoorAsF
import Derived.Test.YtjkojbaphdlhlaaDoorAsC
import Derived.Test.YtjkojbaphdlhlaaDoorAsD
import Derived.Test.YtjkojbaphdlhlaaDoorAsE
import Derived.Test.YtjkojbaphdlhlaaDoorApp
import Derived.Test.YtjkojbaphdlhlaaDoorAsG
import Derived.Test.YtjkojbaphdlhlaaDoorWraps
import Derived.Deep.Slices
import Derived.Deep.Fields
import Derived.ChangeSame
import Derived.Deep.RegionLaw
import Derived.Deep.AppendLies
import Derived.WalkKit
import Derived.ProofKit
import Derived.OpenShut
import Derived.ShutString
import Derived.Below
import Derived.Outline
import Derived.WalkLawsBesides
import Derived.WalkSpells
import Derived.Handy
import Derived.Deep.QuietTactic
import Derived.BigQuiet
import Derived.RegionTactic
import Derived.ChangeAlike
import Derived.Lib.Hide
import Derived.Deep.LoopGhost
import Derived.Deep.RegionHeld3
import Derived.Deep.Cut
import Derived.Deep.CutRange
import Derived.Deep.DeepCutAuto
import Derived.Deep.CutBlock
import Derived.Deep.RegionLaw
import Derived.LaidEql
import Derived.Stop.Asserts
import Derived.RowKitTokens
import Derived.Defers
import Derived.Recover
namespace Go.Proofs.YtjkojbaphdlhlaaDoor
open Go.ChangeShapes Go.WideShapes Go.ChangeAt Go.RowKit
def plN (l : List Wr) : Int := (firstPl l).getD 0
def plB (l : List Wr) : Bool := (firstPl l).isSome
theorem place_is (l : List Wr) (c : Int) (v : Value) (w : World) (h : Ch w c l v) (hg : w.cell? ⟨0, 0, none⟩ = some (.iface 126 (.agg #[.pointer (some ⟨1, 30, none⟩)]))) (hgl : 0 < w.heap.size) : Calls Tryd.prog 11 #[v] w fun e w' => e = .returned (.tuple #[.int .i64 (plN l), .bool (plB l)]) ∧ Below w.heap.size w w' := by
  unfold plN plB
  cases hf : firstPl l with
  | none => exact place_none l c v w h hg hgl hf
  | some n => exact place_some n l c v w h hg hgl hf
def WordsAt (L : List ByteArray) (e : Ending) (w w' : World) : Prop := ∃ A cp, e = .returned (.slice A L.length cp) ∧ (∀ s r, L = s :: r → ∃ g, A = some ⟨g, 0, none⟩ ∧ g < w'.heap.size ∧ w'.cell? ⟨g, 0, none⟩ = some (.string s)) ∧ Below w.heap.size w w'
theorem words_at (l : List Wr) (L : List ByteArray) (hL : wos l = L) (c : Int) (v : Value) (w : World) (h : Ch w c l v) (hg : w.cell? ⟨0, 0, none⟩ = some (.iface 126 (.agg #[.pointer (some ⟨1, 30, none⟩)]))) (hgl : 0 < w.heap.size) (hl : L.length ≤ 1000) : Calls Tryd.prog 32 #[v] w fun e w' => WordsAt L e w w' := by
  subst hL
  refine (words_is l c v w h hg hgl hl).mono fun e w' ⟨r, he, hr, hb⟩ => ?_
  obtain ⟨A, cp, rfl⟩ := own_shape hr
  refine ⟨A, cp, he, fun s t hst => ?_, hb⟩
  obtain ⟨g, cap, hv, hg1, hg2⟩ := World.ownsRow.form hr (by rw [hst]; exact Nat.succ_pos _)
  have hA : A = some ⟨g, 0, none⟩ := by injection hv
  subst hA
  refine ⟨g, rfl, hg2, ?_⟩
  have hc := World.ownsRow.cells hr (g := g) rfl 0 (.string s) (by rw [hst]; rfl)
  exact hc
end Go.Proofs.YtjkojbaphdlhlaaDoor

/-
  The law's 'to'.
-/
import Derived.Test.YtinciphhoieonaaGreatDoorRows
import Derived.Test.YtinciphhoieonaaGreatDoorKit
import Derived.Test.YtinciphhoieonaaGreatDoorApp
import Derived.Test.YtinciphhoieonaaGreatDoorQuiet
import Derived.WalkKit
import Derived.ProofKit
import Derived.OpenShut
import Derived.ShutString
import Derived.Below
import Derived.Outline
import Derived.WalkLawsBesides
import Derived.WalkSpells
import Derived.Handy
import Derived.Deep.QuietTactic
import Derived.BigQuiet
import Derived.RegionTactic
import Derived.ChangeAlike
import Derived.Lib.Hide
import Derived.Laws.Rows
import Derived.Laws.Tables
import Derived.Laws.CopyOwn
import Derived.Laws.MakeOwn
import Derived.Laws.Entries
import Derived.Laws.OwnMore
import Derived.Deep.WholeRow
import Derived.Deep.LoopGhost
import Derived.Deep.AppendLies
import Derived.Deep.Draws
import Derived.Maps.AppendAt
import Derived.OwnWalk
import Derived.Deep.RegionHeld3
import Derived.Deep.Cut
import Derived.Deep.CutRange
import Derived.Deep.DeepCutAuto
import Derived.Deep.CutBlock
import Derived.Lib.SliceRun
import Derived.IntWalk
import Derived.Laws.Strings
import Derived.Lib.Bytealg
import Derived.Lib.Strings
import Derived.Laws.Externs
import Derived.Test.YtinciphhoieonaaGreatDoorAnP
namespace Go.Proofs.YtinciphhoieonaaGreatDoor
open Go.ChangeShapes Go.WideShapes Go.ChangeAt Go.RowKit
/-- The cells of a row of looks. -/
def lcs : List Lk → List Value
  | [] => []
  | x :: L => .int .i64 x.k :: .int .i64 x.l :: .int .i64 x.f :: lcs L
theorem lcs_append (L M : List Lk) : lcs (L ++ M) = lcs L ++ lcs M := by
  induction L with
  | nil => rfl
  | cons x L ih => show _ :: _ :: _ :: lcs (L ++ M) = _; rw [ih]; rfl
theorem lcs_get : ∀ (L : List Lk) (i : Nat) (x : Lk), L[i]? = some x → (lcs L)[i * 3]? = some (.int .i64 x.k) ∧ (lcs L)[i * 3 + 1]? = some (.int .i64 x.l) ∧ (lcs L)[i * 3 + 2]? = some (.int .i64 x.f)
  | [], i, x, h => by simp at h
  | y :: L, 0, x, h => by
    injection h with h
    subst h
    exact ⟨rfl, rfl, rfl⟩
  | y :: L, i + 1, x, h => by
    have := lcs_get L i x h
    rw [Nat.succ_mul]
    exact this
theorem infoLk : (Tryz.prog.info? 54).map (fun i => (i.zero, i.size, i.bytes)) = some (some (.agg #[.int .i64 0, .int .i64 0, .int .i64 0]), 3, 24) := by kernel_rfl
theorem own_lk {base : Nat} {A : Option Addr} {cap n : Nat} {L : List Lk} {w : World} (h : w.ownsRow base 54 3 (.slice A n cap) n (lcs L)) (hn : n = L.length) : LkAt A L w := fun h0 => by
  obtain ⟨g, c2, hv, hb, hlt⟩ := h.form (by omega)
  injection hv with hA _ _
  subst hA
  refine ⟨⟨g, 0, none⟩, rfl, hlt, fun i x hx => ?_⟩
  have hc := h.cells (g := g) rfl
  obtain ⟨h1, h2, h3⟩ := lcs_get L i x hx
  exact ⟨hc _ _ h1, hc _ _ h2, hc _ _ h3⟩
end Go.Proofs.YtinciphhoieonaaGreatDoor

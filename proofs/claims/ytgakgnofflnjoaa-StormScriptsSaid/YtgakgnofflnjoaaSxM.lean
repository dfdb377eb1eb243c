/-
  A storm's script: what is drawn, round by round.
-/
import Derived.Test.YtgakgnofflnjoaaRows
import Derived.Test.YtgakgnofflnjoaaKit
import Derived.Test.YtgakgnofflnjoaaApp
import Derived.Test.YtgakgnofflnjoaaQuiet
import Derived.Test.YtgakgnofflnjoaaSt
import Derived.Test.YtgakgnofflnjoaaStA
import Derived.Test.YtgakgnofflnjoaaStT
import Derived.Test.YtgakgnofflnjoaaStK
import Derived.Test.YtgakgnofflnjoaaStR
import Derived.Test.YtgakgnofflnjoaaStL
import Derived.Test.YtgakgnofflnjoaaStS
import Derived.Test.YtgakgnofflnjoaaStM
import Derived.Test.YtgakgnofflnjoaaStV
import Derived.Test.YtgakgnofflnjoaaStD
import Derived.Test.YtgakgnofflnjoaaSxP
import Derived.Test.YtgakgnofflnjoaaSxA
import Derived.Test.YtgakgnofflnjoaaSxB
import Derived.Test.YtgakgnofflnjoaaSxT
import Derived.Test.YtgakgnofflnjoaaSxK
import Derived.WalkKit
import Derived.ProofKit
import Derived.OpenShut
import Derived.ShutString
import Derived.Below
import Derived.Outline
import Derived.WalkLawsBesides
import Derived.WalkSpells
import Derived.Handy
import Derived.Deep.QuietTactic
import Derived.BigQuiet
import Derived.RegionTactic
import Derived.ChangeAlike
import Derived.Lib.Hide
import Derived.Laws.Rows
import Derived.Laws.Tables
import Derived.Laws.CopyOwn
import Derived.Laws.MakeOwn
import Derived.Laws.Entries
import Derived.Laws.OwnMore
import Derived.Deep.WholeRow
import Derived.Deep.LoopGhost
import Derived.Deep.AppendLies
import Derived.Deep.Draws
import Derived.Maps.AppendAt
import Derived.OwnWalk
import Derived.Deep.RegionHeld3
import Derived.Deep.Cut
import Derived.Deep.CutRange
import Derived.Deep.DeepCutAuto
import Derived.Deep.CutBlock
import Derived.Lib.SliceRun
import Derived.IntWalk
namespace Go.Proofs.Ytgakgnofflnjoaa
open Go.ChangeShapes Go.WideShapes Go.ChangeAt Go.RowKit
/-- The source's number, the tick, how many numbers each participant used. -/
abbrev SM := Int × Int × (Nat → Nat)
def evA (u : Int) (v : Int × Int × Int × Int × Int × Int × Int × Int × Int) : List Int := [1, u, 0, v.1, v.2.1, v.2.2.1, v.2.2.2.1, v.2.2.2.2.1, v.2.2.2.2.2.1, v.2.2.2.2.2.2.1, v.2.2.2.2.2.2.2.1, v.2.2.2.2.2.2.2.2]
/-- A round: the state behind it, and the events. -/
def stepM (p c n b ma mt md ms mp mw : Int) (s : SM) : SM × List (List Int) :=
  if bl (nx (nx s.1)) (mx0 ma + mx0 mt + mx0 md + 4) < mx0 ma then
    (((askV c n mp mw ((s.2.2 (bl (nx s.1) p).toNat + 1 : Nat) : Int) s.2.1 (nx (nx s.1))).2, s.2.1, fun i => if i = (bl (nx s.1) p).toNat then s.2.2 (bl (nx s.1) p).toNat + 1 else s.2.2 i), [evA (bl (nx s.1) p) (askV c n mp mw ((s.2.2 (bl (nx s.1) p).toNat + 1 : Nat) : Int) s.2.1 (nx (nx s.1))).1])
  else if bl (nx (nx s.1)) (mx0 ma + mx0 mt + mx0 md + 4) < mx0 ma + mx0 mt then
    ((nx (nx (nx s.1)), hold2 (s.2.1 + (1 + bl (nx (nx (nx s.1))) 3)), s.2.2), [[2, 0, 1 + bl (nx (nx (nx s.1))) 3, 0, 0, 0, 0, 0, 0, 0, 0, 0]])
  else if bl (nx (nx s.1)) (mx0 ma + mx0 mt + mx0 md + 4) < mx0 ma + mx0 mt + mx0 md then
    ((nx (nx (nx s.1)), s.2.1, s.2.2), [[4, bl (nx s.1) p, bl (nx (nx (nx s.1))) (p * c), 0, 0, 0, 0, 0, 0, 0, 0, 0]])
  else ((nx (nx (nx (nx (nx s.1)))), s.2.1, s.2.2), List.replicate (1 + bl (nx (nx (nx (nx (nx s.1))))) ms).toNat [3, agt (bl (nx (nx (nx (nx s.1)))) 3) (bl (nx s.1) p) (bl (nx (nx (nx s.1))) (p + 2 * (n * b))), 0, 0, 0, 0, 0, 0, 0, 0, 0, 0])
theorem stepM_pos (p c n b ma mt md ms mp mw : Int) (s : SM) : 0 < (stepM p c n b ma mt md ms mp mw s).2.length := by
  unfold stepM
  split
  · show 0 < 1; omega
  · split
    · show 0 < 1; omega
    · split
      · show 0 < 1; omega
      · rw [List.length_replicate]
        have := bl_lo (nx (nx (nx (nx (nx s.1))))) ms
        omega
theorem stepM_bd (p c n b ma mt md ms mp mw : Int) (s : SM) (l : Nat) (h : (0 ≤ s.2.1 ∧ s.2.1 ≤ 1000000) ∧ ∀ j, s.2.2 j ≤ l) : (0 ≤ (stepM p c n b ma mt md ms mp mw s).1.2.1 ∧ (stepM p c n b ma mt md ms mp mw s).1.2.1 ≤ 1000000) ∧ ∀ j, (stepM p c n b ma mt md ms mp mw s).1.2.2 j ≤ l + (stepM p c n b ma mt md ms mp mw s).2.length := by
  have hp := stepM_pos p c n b ma mt md ms mp mw s
  obtain ⟨⟨h0, h1⟩, h2⟩ := h
  revert hp
  unfold stepM
  split
  · intro _
    refine ⟨⟨h0, h1⟩, fun j => ?_⟩
    show (if j = _ then _ else _) ≤ l + 1
    have := h2 j
    have := h2 (bl (nx s.1) p).toNat
    split <;> omega
  · split
    · intro _
      refine ⟨?_, fun j => ?_⟩
      · have := bl_lo (nx (nx (nx s.1))) 3
        show 0 ≤ hold2 _ ∧ hold2 _ ≤ 1000000
        unfold hold2
        split <;> omega
      · have := h2 j
        show s.2.2 j ≤ l + 1
        omega
    · split
      · intro _
        refine ⟨⟨h0, h1⟩, fun j => ?_⟩
        have := h2 j
        show s.2.2 j ≤ l + 1
        omega
      · intro _
        refine ⟨⟨h0, h1⟩, fun j => ?_⟩
        have := h2 j
        show s.2.2 j ≤ l + _
        omega
/-- So many rounds. -/
def itS (p c n b ma mt md ms mp mw seed : Int) : Nat → SM × List (List Int)
  | 0 => ((seed, 0, fun _ => 0), [])
  | k + 1 => ((stepM p c n b ma mt md ms mp mw (itS p c n b ma mt md ms mp mw seed k).1).1, (itS p c n b ma mt md ms mp mw seed k).2 ++ (stepM p c n b ma mt md ms mp mw (itS p c n b ma mt md ms mp mw seed k).1).2)
theorem itS_bd (p c n b ma mt md ms mp mw seed : Int) : ∀ k, (0 ≤ (itS p c n b ma mt md ms mp mw seed k).1.2.1 ∧ (itS p c n b ma mt md ms mp mw seed k).1.2.1 ≤ 1000000) ∧ ∀ j, (itS p c n b ma mt md ms mp mw seed k).1.2.2 j ≤ (itS p c n b ma mt md ms mp mw seed k).2.length
  | 0 => ⟨⟨Int.le_refl _, by show (0 : Int) ≤ 1000000; omega⟩, fun j => Nat.le_refl _⟩
  | k + 1 => by
    have ih := itS_bd p c n b ma mt md ms mp mw seed k
    have h := stepM_bd p c n b ma mt md ms mp mw (itS p c n b ma mt md ms mp mw seed k).1 _ ih
    refine ⟨h.1, fun j => ?_⟩
    show _ ≤ ((itS p c n b ma mt md ms mp mw seed k).2 ++ _).length
    rw [List.length_append]
    exact h.2 j
theorem itS_len (p c n b ma mt md ms mp mw seed : Int) : ∀ k, k ≤ (itS p c n b ma mt md ms mp mw seed k).2.length
  | 0 => Nat.zero_le _
  | k + 1 => by
    have ih := itS_len p c n b ma mt md ms mp mw seed k
    have h := stepM_pos p c n b ma mt md ms mp mw (itS p c n b ma mt md ms mp mw seed k).1
    show _ ≤ ((itS p c n b ma mt md ms mp mw seed k).2 ++ _).length
    rw [List.length_append]
    omega
theorem itS_pre (p c n b ma mt md ms mp mw seed : Int) (m : Nat) : ∀ k d, m ≤ (itS p c n b ma mt md ms mp mw seed k).2.length → (itS p c n b ma mt md ms mp mw seed (k + d)).2.take m = (itS p c n b ma mt md ms mp mw seed k).2.take m
  | k, 0, _ => rfl
  | k, d + 1, h => by
    have ih := itS_pre p c n b ma mt md ms mp mw seed m k d h
    have hl : m ≤ (itS p c n b ma mt md ms mp mw seed (k + d)).2.length := by
      have h1 := congrArg List.length ih
      rw [List.length_take, List.length_take] at h1
      omega
    show ((itS p c n b ma mt md ms mp mw seed (k + d)).2 ++ _).take m = _
    rw [List.take_append_of_le_length hl, ih]
/-- The script. -/
def scr (p c n b ma mt md ms mp mw seed : Int) (m : Nat) : List (List Int) := (itS p c n b ma mt md ms mp mw seed m).2.take m
theorem scr_of (p c n b ma mt md ms mp mw seed : Int) (m k : Nat) (h : m ≤ (itS p c n b ma mt md ms mp mw seed k).2.length) : (itS p c n b ma mt md ms mp mw seed k).2.take m = scr p c n b ma mt md ms mp mw seed m := by
  unfold scr
  rcases Nat.le_total k m with hkm | hkm
  · obtain ⟨d, rfl⟩ := Nat.exists_eq_add_of_le hkm
    exact (itS_pre p c n b ma mt md ms mp mw seed (k + d) k d h).symm
  · obtain ⟨d, rfl⟩ := Nat.exists_eq_add_of_le hkm
    exact itS_pre p c n b ma mt md ms mp mw seed m m d (itS_len p c n b ma mt md ms mp mw seed m)
theorem scr_len (p c n b ma mt md ms mp mw seed : Int) (m : Nat) : (scr p c n b ma mt md ms mp mw seed m).length = m := by
  unfold scr
  rw [List.length_take]
  have := itS_len p c n b ma mt md ms mp mw seed m
  omega
theorem scr_begins (p c n b ma mt md ms mp mw seed : Int) (m d : Nat) : (scr p c n b ma mt md ms mp mw seed (m + d)).take m = scr p c n b ma mt md ms mp mw seed m := by
  show ((itS p c n b ma mt md ms mp mw seed (m + d)).2.take (m + d)).take m = _
  rw [List.take_take, Nat.min_eq_left (by omega)]
  exact scr_of p c n b ma mt md ms mp mw seed m (m + d) (Nat.le_trans (by omega) (itS_len p c n b ma mt md ms mp mw seed (m + d)))
end Go.Proofs.Ytgakgnofflnjoaa

/-
  The library and the model of a number: no program.
-/
import Derived.Test.YtafnipgeeampjaaGreatDoorRows
import Derived.Test.YtafnipgeeampjaaGreatDoorKit
import Derived.Test.YtafnipgeeampjaaGreatDoorApp
import Derived.Test.YtafnipgeeampjaaGreatDoorQuiet
import Derived.WalkKit
import Derived.ProofKit
import Derived.OpenShut
import Derived.ShutString
import Derived.Below
import Derived.Outline
import Derived.WalkLawsBesides
import Derived.WalkSpells
import Derived.Handy
import Derived.Deep.QuietTactic
import Derived.BigQuiet
import Derived.RegionTactic
import Derived.ChangeAlike
import Derived.Lib.Hide
import Derived.Laws.Rows
import Derived.Laws.Tables
import Derived.Laws.CopyOwn
import Derived.Laws.MakeOwn
import Derived.Laws.Entries
import Derived.Laws.OwnMore
import Derived.Deep.WholeRow
import Derived.Deep.LoopGhost
import Derived.Deep.AppendLies
import Derived.Deep.Draws
import Derived.Maps.AppendAt
import Derived.OwnWalk
import Derived.Deep.RegionHeld3
import Derived.Deep.Cut
import Derived.Deep.CutRange
import Derived.Deep.DeepCutAuto
import Derived.Deep.CutBlock
import Derived.Lib.SliceRun
import Derived.IntWalk
import Derived.Laws.Strings
import Derived.Lib.Bytealg
import Derived.Lib.Strings
import Derived.Laws.Externs
import Derived.Test.YtafnipgeeampjaaGreatDoorLnB
import Derived.Test.YtafnipgeeampjaaGreatDoorLnD
import Derived.Test.YtafnipgeeampjaaGreatDoorLnG
import Derived.Lib.SplitLaws
import Derived.Shelf.Strings.Split
import Derived.Test.YtafnipgeeampjaaGreatDoorSrO
import Derived.Lib.Atoi
import Derived.Lib.Join
namespace Go.Proofs.YtafnipgeeampjaaGreatDoor
open Go.ChangeShapes Go.WideShapes Go.ChangeAt Go.RowKit
/-- What stands behind a minus, if there is one. -/
def unm (l : List UInt8) : List UInt8 := if neg l = true then l.tail else l
theorem neg_cons (a : UInt8) (t : List UInt8) : neg (a :: t) = (a == 45) := by
  unfold neg
  rw [List.head?_cons]
  rfl
theorem hasPrefix_neg (l : List UInt8) : Lib.hasPrefix l [45] = neg l := by
  unfold Lib.hasPrefix
  cases l with
  | nil => rfl
  | cons a t =>
    rw [neg_cons, List.isPrefixOf_cons_cons, List.isPrefixOf_nil_left, Bool.and_true]
    by_cases h : a = 45
    · subst h; rfl
    · rw [beq_eq_false_iff_ne.2 h, beq_eq_false_iff_ne.2 (fun e => h e.symm)]
theorem trimPrefix_neg (l : List UInt8) : Lib.trimPrefix l [45] = unm l := by
  unfold Lib.trimPrefix unm
  rw [hasPrefix_neg]
  split
  · cases l with
    | nil => rfl
    | cons a t => rfl
  · rfl
/-- How the program tells a number. -/
theorem inum_none (l : List UInt8) (h : (!(digs (unm l)) || (neg l && (unm l == [48]))) = true) : inum l = none := by
  unfold unm at h
  unfold inum
  rcases hn : neg l with _ | _
  · rw [hn, if_neg (by decide)] at h
    rw [if_neg (by decide)]
    rcases hd : digs l with _ | _
    · rfl
    · rw [hd] at h; simp at h
  · rw [hn, if_pos rfl] at h
    rw [if_pos rfl]
    rw [if_neg]
    rintro ⟨h1, h2⟩
    rw [h1, beq_eq_false_iff_ne.2 h2] at h
    simp at h
theorem inum_some (l : List UInt8) (h : (!(digs (unm l)) || (neg l && (unm l == [48]))) = false) : inum l = some (if neg l = true then -(nv (unm l) : Int) else (nv (unm l) : Int)) := by
  unfold unm at h ⊢
  unfold inum
  rcases hn : neg l with _ | _
  · rw [hn, if_neg (by decide)] at h
    rcases hd : digs l with _ | _
    · rw [hd] at h; simp at h
    · simp
  · rw [hn, if_pos rfl] at h
    rw [if_pos rfl, if_pos rfl, if_pos rfl]
    rcases hd : digs l.tail with _ | _
    · rw [hd] at h; simp at h
    · rw [hd] at h
      rw [if_pos]
      refine ⟨rfl, fun e => ?_⟩
      rw [e] at h
      simp at h
theorem decNat_digs {l : List UInt8} (h : digs l = true) : Lib.decNat l = some (nv l) := by
  obtain ⟨h1, _, h3, _⟩ := digs_dec h
  unfold Lib.decNat
  rw [if_neg, h3]
  cases l with
  | nil => simp at h1
  | cons a t => simp
theorem atoi_inum {l : List UInt8} {x : Int} (h : inum l = some x) : Lib.atoi l = some x ∧ l.length ≤ 8 := by
  unfold inum at h
  cases l with
  | nil =>
    rw [if_neg (by decide), if_neg (by decide)] at h
    cases h
  | cons a t =>
    rw [neg_cons, List.tail_cons] at h
    by_cases ha : a = 45
    · subst ha
      rw [if_pos (by rfl)] at h
      split at h
      · rename_i g
        have hd := digs_dec g.1
        simp only [Option.some.injEq] at h
        refine ⟨?_, by rw [List.length_cons]; omega⟩
        simp only [Lib.atoi]
        rw [if_pos (by rfl), decNat_digs g.1, Option.map_some, h]
      · cases h
    · rw [if_neg (by rw [beq_iff_eq]; exact ha)] at h
      split at h
      · rename_i g
        have hd := digs_dec g
        have hf := digs_first g a t rfl
        simp only [Option.some.injEq] at h
        refine ⟨?_, by omega⟩
        simp only [Lib.atoi]
        rw [if_neg (by rw [beq_iff_eq]; exact ha), if_neg (by
          rw [beq_iff_eq]
          intro e
          subst e
          exact absurd hf.1 (by decide)), decNat_digs g, Option.map_some, h]
      · cases h
theorem index_mem : ∀ (l : List UInt8) (c : UInt8), decide (0 ≤ Lib.indexByte l c) = decide (c ∈ l)
  | [], c => by
    unfold Lib.indexByte
    simp
  | b :: l, c => by
    unfold Lib.indexByte
    by_cases h : b == c
    · rw [if_pos h]
      have := beq_iff_eq.1 h
      subst this
      simp
    · have ih := index_mem l c
      rw [if_neg h]
      have hbc : ¬ c = b := fun e => h (by rw [e]; simp)
      rcases ibyte_cases l c with e | ⟨i, e, _⟩
      · rw [e] at ih ⊢
        rw [if_pos (by rfl)]
        rw [decide_eq_decide] at ih ⊢
        rw [List.mem_cons]
        constructor
        · intro q; omega
        · rintro (q | q)
          · exact absurd q hbc
          · exact ih.2 q
      · rw [e] at ih ⊢
        rw [if_neg (by rw [beq_iff_eq]; omega)]
        rw [decide_eq_decide] at ih ⊢
        rw [List.mem_cons]
        constructor
        · intro q; exact .inr (ih.1 (by omega))
        · intro q; omega

end Go.Proofs.YtafnipgeeampjaaGreatDoor

/-
  A blank more, and a line asks nothing.
-/
import Derived.Test.YtnppopeoloigeaaDoorRows
import Derived.Test.YtnppopeoloigeaaDoorKit
import Derived.Test.YtnppopeoloigeaaDoorApp
import Derived.Test.YtnppopeoloigeaaDoorQuiet
import Derived.WalkKit
import Derived.ProofKit
import Derived.OpenShut
import Derived.ShutString
import Derived.Below
import Derived.Outline
import Derived.WalkLawsBesides
import Derived.WalkSpells
import Derived.Handy
import Derived.Deep.QuietTactic
import Derived.BigQuiet
import Derived.RegionTactic
import Derived.ChangeAlike
import Derived.Lib.Hide
import Derived.Laws.Rows
import Derived.Laws.Tables
import Derived.Laws.CopyOwn
import Derived.Laws.MakeOwn
import Derived.Laws.Entries
import Derived.Laws.OwnMore
import Derived.Deep.WholeRow
import Derived.Deep.LoopGhost
import Derived.Deep.AppendLies
import Derived.Deep.Draws
import Derived.Maps.AppendAt
import Derived.OwnWalk
import Derived.Deep.RegionHeld3
import Derived.Deep.Cut
import Derived.Deep.CutRange
import Derived.Deep.DeepCutAuto
import Derived.Deep.CutBlock
import Derived.Lib.SliceRun
import Derived.IntWalk
import Derived.Laws.Strings
import Derived.Test.YtnppopeoloigeaaDoorLnQ
namespace Go.Proofs.YtnppopeoloigeaaDoor
open Go.ChangeShapes Go.WideShapes Go.ChangeAt Go.RowKit
theorem count_none {l : List UInt8} (h : ∀ x ∈ l, x ≠ 32) : l.count 32 = 0 := List.count_eq_zero.2 (fun hm => h 32 hm rfl)
theorem stp_count (n : Int) : ∀ (L : List (Nat × Bool)) (cs : List Int) (r : List UInt8) (m : Bool) (c' : List Int) (q : List UInt8), stp n L cs r m = .go c' q false → (tx m r).count 32 = L.length
  | [], cs, r, m, c', q, h => by
    simp only [stp] at h
    injection h with _ _ h
    rw [h]
    rfl
  | (j, b) :: t, cs, r, m, c', q, h => by
    rw [stp_cons] at h
    split at h
    · cases h
    · rename_i hm
      split at h
      · have ih := stp_count n t _ _ _ c' q h
        obtain ⟨e1, e2, _⟩ := cutb_join r
        have hmt : m = true := by simpa using hm
        rw [hmt]
        show (32 :: r).count 32 = t.length + 1
        rw [List.count_cons_self]
        have : r.count 32 = t.length := by
          rw [e1, List.count_append, count_none e2, ih]; omega
        omega
      · cases h
theorem lp_count {s : ByteArray} {c : List Int} (h : lp s = .ok c) : s.data.toList.count 32 = (tg (kd (Bs (cutb s.data.toList).1))).length := by
  obtain ⟨_, q, e⟩ := lp_ok h
  have h1 := stp_count _ _ _ _ _ _ _ e
  obtain ⟨e1, e2, _⟩ := cutb_join s.data.toList
  have h2 := congrArg (List.count 32) e1
  rw [List.count_append, count_none e2, h1] at h2
  omega
theorem tw_app : ∀ (V W : List UInt8), (∀ x ∈ V, x ≠ 32) → (W = [] ∨ ∃ W', W = 32 :: W') → (V ++ W).takeWhile (fun x => !(x == 32)) = V
  | [], W, _, h => by
    rcases h with rfl | ⟨W', rfl⟩
    · rfl
    · simp
  | a :: V, W, hV, h => by
    have ha : (a == 32) = false := beq_eq_false_iff_ne.2 (hV a (List.mem_cons_self ..))
    rw [List.cons_append, List.takeWhile_cons, ha]
    simp only [Bool.not_false, if_true]
    rw [tw_app V W (fun x hx => hV x (List.mem_cons_of_mem _ hx)) h]
theorem tx_head (m : Bool) (r : List UInt8) : tx m r = [] ∨ ∃ W', tx m r = 32 :: W' := by
  unfold tx
  split
  · exact .inr ⟨r, rfl⟩
  · exact .inl rfl
theorem cutb_tw (l : List UInt8) : (cutb l).1 = l.takeWhile (fun x => !(x == 32)) := by
  obtain ⟨e1, e2, _⟩ := cutb_join l
  have := tw_app (cutb l).1 (tx (cutb l).2.2 (cutb l).2.1) e2 (tx_head _ _)
  rw [← e1] at this
  exact this.symm
/-- The first word of a line with a blank more. -/
theorem blank_word (l : List UInt8) (k : Nat) : (cutb (l.take k ++ 32 :: l.drop k)).1 = (cutb l).1 ∨ ∃ i, i < (cutb l).1.length ∧ (cutb (l.take k ++ 32 :: l.drop k)).1 = (cutb l).1.take i := by
  obtain ⟨e1, e2, _⟩ := cutb_join l
  have hh := tx_head (cutb l).2.2 (cutb l).2.1
  generalize (cutb l).1 = V at *
  generalize tx (cutb l).2.2 (cutb l).2.1 = W at *
  by_cases hk : k < V.length
  · refine .inr ⟨k, hk, ?_⟩
    have h1 : l.take k = V.take k := by rw [e1, List.take_append_of_le_length (by omega)]
    rw [h1, cutb_tw]
    exact tw_app _ _ (fun x hx => e2 x (List.mem_of_mem_take hx)) (.inr ⟨_, rfl⟩)
  · refine .inl ?_
    have h1 : l.take k ++ 32 :: l.drop k = V ++ (W.take (k - V.length) ++ 32 :: l.drop k) := by
      have : l.take k = V ++ W.take (k - V.length) := by
        rw [e1, List.take_append, List.take_of_length_le (by omega)]
      rw [this, List.append_assoc]
    rw [h1, cutb_tw]
    refine tw_app _ _ e2 (.inr ?_)
    rcases hh with rfl | ⟨W', rfl⟩
    · exact ⟨l.drop k, by simp⟩
    · rcases k - V.length with _ | i
      · exact ⟨l.drop k, by simp⟩
      · exact ⟨W'.take i ++ 32 :: l.drop k, by simp⟩
theorem kd_list {x : List UInt8} (h : kd (Bs x) ≠ 0) : x = (vb 1).data.toList ∨ x = (vb 2).data.toList ∨ x = (vb 3).data.toList ∨ x = (vb 4).data.toList := by
  unfold kd at h
  split at h
  · rename_i e; have := beq_Bs e; rw [Bs_list] at this; exact .inl this.symm
  · split at h
    · rename_i e; have := beq_Bs e; rw [Bs_list] at this; exact .inr (.inl this.symm)
    · split at h
      · rename_i e; have := beq_Bs e; rw [Bs_list] at this; exact .inr (.inr (.inl this.symm))
      · split at h
        · rename_i e; have := beq_Bs e; rw [Bs_list] at this; exact .inr (.inr (.inr this.symm))
        · exact absurd rfl h
theorem kd_short {V : List UInt8} (h : kd (Bs V) ≠ 0) (i : Nat) (hi : i < V.length) : kd (Bs (V.take i)) = 0 := by
  rcases kd_list h with rfl | rfl | rfl | rfl
  · have h6 : i < 6 := hi
    rcases (show i = 0 ∨ i = 1 ∨ i = 2 ∨ i = 3 ∨ i = 4 ∨ i = 5 by omega) with rfl | rfl | rfl | rfl | rfl | rfl <;> decide +kernel
  · have h6 : i < 6 := hi
    rcases (show i = 0 ∨ i = 1 ∨ i = 2 ∨ i = 3 ∨ i = 4 ∨ i = 5 by omega) with rfl | rfl | rfl | rfl | rfl | rfl <;> decide +kernel
  · have h4 : i < 4 := hi
    rcases (show i = 0 ∨ i = 1 ∨ i = 2 ∨ i = 3 by omega) with rfl | rfl | rfl | rfl <;> decide +kernel
  · have h4 : i < 4 := hi
    rcases (show i = 0 ∨ i = 1 ∨ i = 2 ∨ i = 3 by omega) with rfl | rfl | rfl | rfl <;> decide +kernel
/-- A blank more, anywhere, and a line asks nothing. -/
theorem lp_blank {s : ByteArray} {c : List Int} (h : lp s = .ok c) (k : Nat) (c' : List Int) : lp (Bs (s.data.toList.take k ++ 32 :: s.data.toList.drop k)) ≠ .ok c' := by
  intro h'
  have n1 := lp_count h
  have n2 := lp_count h'
  have z1 := (lp_ok h).1
  have z2 := (lp_ok h').1
  rw [Bs_list] at n2 z2
  have hc : (s.data.toList.take k ++ 32 :: s.data.toList.drop k).count 32 = s.data.toList.count 32 + 1 := by
    rw [List.count_append, List.count_cons_self]
    have := congrArg (List.count 32) (List.take_append_drop k s.data.toList)
    rw [List.count_append] at this
    omega
  rcases blank_word s.data.toList k with e | ⟨i, hi, e⟩
  · rw [e] at n2; omega
  · rw [e] at z2
    exact z2 (kd_short z1 i hi)
end Go.Proofs.YtnppopeoloigeaaDoor

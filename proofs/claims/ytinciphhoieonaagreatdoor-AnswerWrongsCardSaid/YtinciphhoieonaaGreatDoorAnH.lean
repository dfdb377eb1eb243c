/-
  Digits and numbers.
-/
import Derived.Test.YtinciphhoieonaaGreatDoorRows
import Derived.Test.YtinciphhoieonaaGreatDoorKit
import Derived.Test.YtinciphhoieonaaGreatDoorApp
import Derived.Test.YtinciphhoieonaaGreatDoorQuiet
import Derived.WalkKit
import Derived.ProofKit
import Derived.OpenShut
import Derived.ShutString
import Derived.Below
import Derived.Outline
import Derived.WalkLawsBesides
import Derived.WalkSpells
import Derived.Handy
import Derived.Deep.QuietTactic
import Derived.BigQuiet
import Derived.RegionTactic
import Derived.ChangeAlike
import Derived.Lib.Hide
import Derived.Laws.Rows
import Derived.Laws.Tables
import Derived.Laws.CopyOwn
import Derived.Laws.MakeOwn
import Derived.Laws.Entries
import Derived.Laws.OwnMore
import Derived.Deep.WholeRow
import Derived.Deep.LoopGhost
import Derived.Deep.AppendLies
import Derived.Deep.Draws
import Derived.Maps.AppendAt
import Derived.OwnWalk
import Derived.Deep.RegionHeld3
import Derived.Deep.Cut
import Derived.Deep.CutRange
import Derived.Deep.DeepCutAuto
import Derived.Deep.CutBlock
import Derived.Lib.SliceRun
import Derived.IntWalk
import Derived.Laws.Strings
import Derived.Lib.Bytealg
import Derived.Lib.Strings
import Derived.Laws.Externs
import Derived.Test.YtinciphhoieonaaGreatDoorAnQ
import Derived.Test.YtinciphhoieonaaGreatDoorLnG
namespace Go.Proofs.YtinciphhoieonaaGreatDoor
open Go.ChangeShapes Go.WideShapes Go.ChangeAt Go.RowKit
theorem dec_snoc : ∀ (l : List UInt8) (acc : Nat) (b : UInt8), Lib.decFrom acc (l ++ [b]) = (Lib.decFrom acc l).bind fun m => (Lib.digitVal b).map fun d => m * 10 + d
  | [], acc, b => by
    simp only [List.nil_append, Lib.decFrom, Option.bind_some]
    rcases Lib.digitVal b with _ | d <;> rfl
  | a :: t, acc, b => by
    simp only [List.cons_append, Lib.decFrom]
    rcases Lib.digitVal a with _ | d
    · rfl
    · exact dec_snoc t _ b
theorem nv_snoc (l : List UInt8) (b : UInt8) (hl : l.all dig = true) (hb : dig b = true) : nv (l ++ [b]) = nv l * 10 + (b.toNat - 48) := by
  obtain ⟨m, hm⟩ := dec_of l 0 hl
  unfold nv
  rw [dec_snoc, hm, dig_val hb]
  rfl
theorem nv_lt (l : List UInt8) (hl : l.all dig = true) : nv l < 10 ^ l.length := by
  obtain ⟨m, hm⟩ := dec_of l 0 hl
  have := Lib.decFrom_lt l 0 _ hm
  unfold nv
  rw [hm]
  simpa using this
theorem dg_dig {n : Nat} (h : n < 10) : dig (dg n) = true := by
  unfold dig
  rw [ofNat_dig h, decide_eq_true (show 48 ≤ 48 + n by omega), decide_eq_true (show 48 + n ≤ 57 by omega)]; rfl
theorem dcl_all (n : Nat) : (dcl n).all dig = true := by
  induction n using Nat.strongRecOn with
  | ind n ih =>
    by_cases h : n < 10
    · rw [dcl_small h]; simp [dg_dig h]
    · rw [dcl_big h, List.all_append, ih _ (by omega)]
      simp [dg_dig (show n % 10 < 10 by omega)]
theorem nv_dcl (n : Nat) : nv (dcl n) = n := by
  induction n using Nat.strongRecOn with
  | ind n ih =>
    by_cases h : n < 10
    · rw [dcl_small h]
      have := nv_snoc [] (dg n) rfl (dg_dig h)
      simp only [List.nil_append] at this
      rw [this, ofNat_dig h]
      have e : nv [] = 0 := rfl
      omega
    · rw [dcl_big h, nv_snoc _ _ (dcl_all _) (dg_dig (by omega)), ih _ (by omega), ofNat_dig (by omega)]
      omega
theorem dcl_pos (n : Nat) : 0 < (dcl n).length := by
  by_cases h : n < 10
  · rw [dcl_small h]; simp
  · rw [dcl_big h]; simp
theorem dcl_first (n : Nat) (h : 0 < n) : (dcl n).getD 0 0 ≠ 48 := by
  induction n using Nat.strongRecOn with
  | ind n ih =>
    by_cases h1 : n < 10
    · rw [dcl_small h1]
      intro e
      have e2 : (dg n).toNat = 48 := by
        have : dg n = 48 := by simpa using e
        rw [this]; rfl
      rw [ofNat_dig h1] at e2
      omega
    · rw [dcl_big h1]
      have := ih (n / 10) (by omega) (by omega)
      have hp := dcl_pos (n / 10)
      intro e
      apply this
      rw [← e]
      simp [List.getD, List.getElem?_append, hp]
theorem dcl_digs {n : Nat} (h : n < 10000000) : digs (dcl n) = true := by
  have h1 := dcl_len 6 n (by omega)
  have h2 := dcl_pos n
  unfold digs
  rw [decide_eq_true h2, decide_eq_true (show (dcl n).length ≤ 7 by omega), dcl_all n]
  have h3 : ((dcl n).getD 0 0 == 48 && decide (1 < (dcl n).length)) = false := by
    rcases Nat.eq_zero_or_pos n with h0 | h0
    · subst h0
      rw [dcl_small (by omega)]
      rfl
    · have := dcl_first n h0
      rw [beq_eq_false_iff_ne.2 this]; rfl
  rw [h3]; rfl
theorem dcl_nv {l : List UInt8} (h : digs l = true) : dcl (nv l) = l :=
  digs_inj (dcl_digs (digs_dec h).2.2.2) h (nv_dcl _)
/-- A word of digits is a number just if it is that number's. -/
theorem digs_iff (l : List UInt8) (h1 : 0 < l.length) (h7 : l.length ≤ 7) (ha : l.all dig = true) : digs l = (dcl (nv l) == l) := by
  rcases e : digs l with _ | _
  · symm
    rw [beq_eq_false_iff_ne]
    intro e2
    have h8 : nv l < 10000000 := Nat.lt_of_lt_of_le (nv_lt l ha) (Nat.le_trans (Nat.pow_le_pow_right (by decide) h7) (by decide))
    have := dcl_digs h8
    rw [e2, e] at this
    cases this
  · symm
    rw [beq_iff_eq]
    exact dcl_nv e
theorem nv_step (l : List UInt8) (k : Nat) (hk : k < l.length) (ha : (l.take k).all dig = true) (hd : dig (l.getD k 0) = true) : nv (l.take (k + 1)) = nv (l.take k) * 10 + ((l.getD k 0).toNat - 48) := by
  rw [List.take_add_one, List.getElem?_eq_getElem hk]
  have : l.getD k 0 = l[k] := by simp [List.getD, hk]
  rw [this] at hd ⊢
  exact nv_snoc _ _ ha hd

end Go.Proofs.YtinciphhoieonaaGreatDoor

/-
  Sums by a key: by shard, by name.
-/
import Derived.Test.YtafignfoejefjaaRows
import Derived.Test.YtafignfoejefjaaKit
import Derived.Test.YtafignfoejefjaaApp
import Derived.Test.YtafignfoejefjaaQuiet
import Derived.WalkKit
import Derived.ProofKit
import Derived.OpenShut
import Derived.ShutString
import Derived.Below
import Derived.Outline
import Derived.WalkLawsBesides
import Derived.WalkSpells
import Derived.Handy
import Derived.Deep.QuietTactic
import Derived.BigQuiet
import Derived.RegionTactic
import Derived.ChangeAlike
import Derived.Lib.Hide
import Derived.Laws.Rows
import Derived.Laws.Tables
import Derived.Laws.CopyOwn
import Derived.Laws.MakeOwn
import Derived.Laws.Entries
import Derived.Laws.OwnMore
import Derived.Deep.WholeRow
import Derived.Deep.LoopGhost
import Derived.Deep.AppendLies
import Derived.Deep.Draws
import Derived.Maps.AppendAt
import Derived.OwnWalk
import Derived.Deep.RegionHeld3
import Derived.Deep.Cut
import Derived.Deep.CutRange
import Derived.Deep.DeepCutAuto
import Derived.Deep.CutBlock
import Derived.Lib.SliceRun
import Derived.IntWalk
import Derived.Test.YtafignfoejefjaaBkM
import Derived.Test.YtafignfoejefjaaBkO
import Derived.Test.YtafignfoejefjaaBkP
import Derived.Test.YtafignfoejefjaaBkQ
import Derived.Test.YtafignfoejefjaaBkL
import Derived.Test.YtafignfoejefjaaBkR
import Derived.Test.YtafignfoejefjaaBkS
namespace Go.Proofs.Ytafignfoejefjaa
open Go.ChangeShapes Go.WideShapes Go.ChangeAt Go.RowKit
def sumK (key : Ord → Int) (s : Int) (os : List Ord) : Nat → Int
  | 0 => 0
  | m + 1 => sumK key s os m + sumq (fun o => o.s == s && key o == (m : Int)) os
theorem sumq_two (f g h : Ord → Bool) : ∀ os : List Ord, (∀ o ∈ os, (h o = (f o || g o)) ∧ (f o && g o) = false) → sumq f os + sumq g os = sumq h os
  | [], _ => rfl
  | o :: t, hh => by
    have h1 := sumq_two f g h t (fun x hx => hh x (List.mem_cons_of_mem _ hx))
    obtain ⟨e, d⟩ := hh o (List.mem_cons_self ..)
    simp only [sumq, e]
    cases hf : f o <;> cases hg : g o <;> simp [hf, hg] at d ⊢ <;> omega
theorem sumK_is (key : Ord → Int) (s : Int) (os : List Ord) : ∀ m : Nat, sumK key s os m = sumq (fun o => o.s == s && (decide (0 ≤ key o) && decide (key o < (m : Int)))) os
  | 0 => by
    rw [sumK, sumq_zero _ os (fun o _ => by
      have : (decide (0 ≤ key o) && decide (key o < ((0 : Nat) : Int))) = false := by
        by_cases h : 0 ≤ key o
        · have h2 : ¬ key o < ((0 : Nat) : Int) := by omega
          simp [h2]
        · simp [h]
      rw [this]; simp)]
  | m + 1 => by
    rw [sumK, sumK_is key s os m]
    refine sumq_two _ _ _ os (fun o _ => ?_)
    cases hs : (o.s == s)
    · simp
    · by_cases h0 : 0 ≤ key o
      · by_cases h1 : key o < (m : Int)
        · have h2 : key o < ((m + 1 : Nat) : Int) := by omega
          have h3 : (key o == (m : Int)) = false := beq_eq_false_iff_ne.2 (by omega)
          simp [h0, h1, h2, h3]; omega
        · by_cases h4 : key o = (m : Int)
          · have h2 : key o < ((m + 1 : Nat) : Int) := by omega
            have h3 : (key o == (m : Int)) = true := beq_iff_eq.2 h4
            simp only [h0, h1, h3, h2]; simp
          · have h2 : ¬ key o < ((m + 1 : Nat) : Int) := by omega
            have h3 : (key o == (m : Int)) = false := beq_eq_false_iff_ne.2 h4
            simp only [h0, h1, h3, h2]; simp
      · have h3 : (key o == (m : Int)) = false := beq_eq_false_iff_ne.2 (by omega)
        simp only [h0, h3]; simp
theorem sumK_bd (key : Ord → Int) (s : Int) (os : List Ord) (m : Nat) (h : Fine os) (hl : os.length ≤ 40) : 0 ≤ sumK key s os m ∧ sumK key s os m ≤ 400000 := by
  have := sumq_bd (fun o => o.s == s && (decide (0 ≤ key o) && decide (key o < (m : Int)))) os h
  rw [← sumK_is] at this
  omega
theorem sh_num {n b x y : Int} (h1 : 1 ≤ b) (h2 : b ≤ 4) (y1 : 1 ≤ y) (y2 : y ≤ 9999) (hn : 1 ≤ n ∧ n ≤ 3) : (0 ≤ sh n b x y ∧ sh n b x y < n * b) ↔ (0 ≤ x ∧ x < n) := by
  obtain ⟨u1, u2⟩ := band_num h1 h2 y1 y2
  unfold sh
  generalize (y - 1) * b / 9999 = u at *
  by_cases h : 0 ≤ x ∧ x < n
  · rw [if_pos h]
    obtain ⟨a, c⟩ := h
    constructor
    · intro _; exact ⟨a, c⟩
    · intro _
      rcases (show b = 1 ∨ b = 2 ∨ b = 3 ∨ b = 4 by omega) with rfl | rfl | rfl | rfl <;> omega
  · rw [if_neg h]
    constructor
    · intro hh; omega
    · intro hh; exact absurd hh h
theorem sums_eq (n b s : Int) (os : List Ord) (hF : Fine os) (hn : 1 ≤ n ∧ n ≤ 3) (hb : 1 ≤ b ∧ b ≤ 4) : sumK (fun o => sh n b o.n o.p) s os (n * b).toNat = sumK (fun o => o.n) s os n.toNat := by
  rw [sumK_is, sumK_is]
  refine sumq_congr os (fun o ho => ?_)
  have hf := hF o ho
  have e := sh_num (x := o.n) hb.1 hb.2 hf.1 hf.2.1 hn
  have m := mul12 hn hb
  have e1 : (((n * b).toNat : Nat) : Int) = n * b := by omega
  have e2 : ((n.toNat : Nat) : Int) = n := by omega
  rw [e1, e2]
  congr 1
  rw [← Bool.decide_and, ← Bool.decide_and]
  exact decide_eq_decide.2 e
theorem hit_key (n s : Int) (os : List Ord) : sumq (hit n s) os = sumq (fun o => o.s == s && o.n == n) os := sumq_congr os (fun o _ => by unfold hit; rw [Bool.and_comm])
/-- No price of a row of levels is better than the first one's. -/
theorem LvIs.top {os : List Ord} {n s : Int} {ls : List Lvl} (h : LvIs os n s ls) : ∀ x ∈ ls, bet s x.p (bp ls) = false := by
  intro x hx
  rcases ls with _ | ⟨y, t⟩
  · simp at hx
  · show bet s x.p y.p = false
    rcases List.mem_cons.1 hx with rfl | hx
    · exact bet_irr s _
    · exact bet_asym ((List.pairwise_cons.1 h.srt).1 x hx)
theorem sumL_bd {os : List Ord} {n s : Int} : ∀ ls : List Lvl, (∀ x ∈ ls, 0 ≤ x.q ∧ x.q ≤ 400000 ∧ 0 ≤ x.k ∧ x.k ≤ 40) → 0 ≤ sumL ls ∧ sumL ls ≤ 400000 * (ls.length : Int) ∧ 0 ≤ cntL ls ∧ cntL ls ≤ 40 * (ls.length : Int)
  | [], _ => by simp [sumL, cntL]
  | x :: t, h => by
    have h1 := sumL_bd (os := os) (n := n) (s := s) t (fun y hy => h y (List.mem_cons_of_mem _ hy))
    have h2 := h x (List.mem_cons_self ..)
    simp only [sumL, cntL, List.length_cons]
    omega
theorem LvIs.bd {os : List Ord} {n s : Int} {ls : List Lvl} (h : LvIs os n s ls) (hF : Fine os) (hl : os.length ≤ 40) : ∀ x ∈ ls, 0 ≤ x.q ∧ x.q ≤ 400000 ∧ 0 ≤ x.k ∧ x.k ≤ 40 := by
  intro x hx
  have e := (h.val x hx).1
  have e1 := congrArg Lvl.q e
  have e2 := congrArg Lvl.k e
  simp only at e1 e2
  have h1 := sumq_bd (hitp n s x.p) os hF
  have h2 := cnt_bd (hitp n s x.p) os
  omega
end Go.Proofs.Ytafignfoejefjaa

/-
  What stories print: no program.
-/
import Derived.Test.YtafnipgeeampjaaGreatDoorRows
import Derived.Test.YtafnipgeeampjaaGreatDoorKit
import Derived.Test.YtafnipgeeampjaaGreatDoorApp
import Derived.Test.YtafnipgeeampjaaGreatDoorQuiet
import Derived.WalkKit
import Derived.ProofKit
import Derived.OpenShut
import Derived.ShutString
import Derived.Below
import Derived.Outline
import Derived.WalkLawsBesides
import Derived.WalkSpells
import Derived.Handy
import Derived.Deep.QuietTactic
import Derived.BigQuiet
import Derived.RegionTactic
import Derived.ChangeAlike
import Derived.Lib.Hide
import Derived.Laws.Rows
import Derived.Laws.Tables
import Derived.Laws.CopyOwn
import Derived.Laws.MakeOwn
import Derived.Laws.Entries
import Derived.Laws.OwnMore
import Derived.Deep.WholeRow
import Derived.Deep.LoopGhost
import Derived.Deep.AppendLies
import Derived.Deep.Draws
import Derived.Maps.AppendAt
import Derived.OwnWalk
import Derived.Deep.RegionHeld3
import Derived.Deep.Cut
import Derived.Deep.CutRange
import Derived.Deep.DeepCutAuto
import Derived.Deep.CutBlock
import Derived.Lib.SliceRun
import Derived.IntWalk
import Derived.Laws.Strings
import Derived.Lib.Bytealg
import Derived.Lib.Strings
import Derived.Laws.Externs
import Derived.Test.YtafnipgeeampjaaGreatDoorLnB
import Derived.Test.YtafnipgeeampjaaGreatDoorLnD
import Derived.Test.YtafnipgeeampjaaGreatDoorLnG
import Derived.Lib.SplitLaws
import Derived.Shelf.Strings.Split
import Derived.Test.YtafnipgeeampjaaGreatDoorSrM
import Derived.Lib.Join
namespace Go.Proofs.YtafnipgeeampjaaGreatDoor
open Go.ChangeShapes Go.WideShapes Go.ChangeAt Go.RowKit
/-- Whether a line can tell an event. -/
def small (x : Int) : Bool := decide (-9999999 ≤ x) && decide (x ≤ 9999999)
def tellM (e : Sev) : Bool :=
  (small e.who && small e.n) &&
    (if e.k = 1 then decide (e.n = 0) && decide (10 ∉ e.line)
     else if e.k = 2 then decide (e.line = []) && decide (e.who = 0)
     else if e.k = 3 then decide (e.line = []) && decide (e.n = 0)
     else if e.k = 4 then decide (e.line = []) else false)
/-- The line of an event that comes so many times. -/
def txtM (e : Sev) (t : Nat) : List UInt8 :=
  if e.k = 1 then vsay ++ 32 :: (dcI e.who ++ 32 :: e.line)
  else if e.k = 2 then vtick ++ 32 :: dcI e.n
  else if e.k = 4 then vdraw ++ 32 :: (dcI e.who ++ 32 :: dcI e.n)
  else if t = 1 then vpick ++ 32 :: dcI e.who
  else vpick ++ 32 :: (dcI e.who ++ 32 :: dcI (t : Int))
def sameM (e : Sev) : Nat → List Sev → Nat
  | 0, _ => 0
  | _ + 1, [] => 0
  | f + 1, b :: t => if b = e then sameM e f t + 1 else 0
def timesM (e : Sev) (t : List Sev) : Nat := if e.k = 3 then sameM e 9999 t + 1 else 1
def linesM : Nat → List Sev → List (List UInt8)
  | 0, _ => []
  | _ + 1, [] => []
  | f + 1, e :: t => txtM e (timesM e t) :: linesM f (t.drop (timesM e t - 1))
theorem sameM_le : ∀ (f : Nat) (e : Sev) (l : List Sev), sameM e f l ≤ f ∧ sameM e f l ≤ l.length
  | 0, e, l => by simp [sameM]
  | f + 1, e, [] => by simp [sameM]
  | f + 1, e, b :: t => by
    have := sameM_le f e t
    simp only [sameM, List.length_cons]
    split <;> omega
theorem sameM_take : ∀ (f : Nat) (e : Sev) (l : List Sev), l = List.replicate (sameM e f l) e ++ l.drop (sameM e f l)
  | 0, e, l => by simp [sameM]
  | f + 1, e, [] => by simp [sameM]
  | f + 1, e, b :: t => by
    simp only [sameM]
    split
    · rename_i h
      subst h
      rw [List.replicate_succ, List.drop_succ_cons, List.cons_append, ← sameM_take f b t]
    · simp
theorem timesM_take (e : Sev) (t : List Sev) : e :: t = List.replicate (timesM e t) e ++ t.drop (timesM e t - 1) := by
  unfold timesM
  split
  · rw [List.replicate_succ, Nat.add_sub_cancel, List.cons_append, ← sameM_take]
  · simp
theorem timesM_bd (e : Sev) (t : List Sev) : 1 ≤ timesM e t ∧ timesM e t ≤ 10000 ∧ timesM e t ≤ t.length + 1 ∧ (e.k ≠ 3 → timesM e t = 1) := by
  have := sameM_le 9999 e t
  unfold timesM
  split
  · exact ⟨by omega, by omega, by omega, fun h => absurd ‹e.k = 3› h⟩
  · exact ⟨by omega, by omega, by omega, fun _ => rfl⟩
theorem small_bd {x : Int} (h : small x = true) : -9999999 ≤ x ∧ x ≤ 9999999 := by
  unfold small at h
  rw [Bool.and_eq_true, decide_eq_true_eq, decide_eq_true_eq] at h
  exact h
theorem dcI_nil (x : Int) : dcI x ≠ [] := by
  unfold dcI
  have := dcl_pos x.natAbs
  split
  · simp
  · intro e; rw [e] at this; simp at this
theorem v_nb : (∀ b ∈ vsay, b ≠ 32) ∧ (∀ b ∈ vtick, b ≠ 32) ∧ (∀ b ∈ vpick, b ≠ 32) ∧ (∀ b ∈ vdraw, b ≠ 32) := by decide
theorem lineM_say (r : List UInt8) : lineM (vsay ++ 32 :: r) = sayM r := by
  have hc := cutb_app vsay r v_nb.1
  unfold lineM
  rw [if_neg (by simp [vsay]), hc, if_pos rfl]
theorem lineM_verb (v r : List UInt8) (h : v = vtick ∨ v = vpick ∨ v = vdraw) : lineM (v ++ 32 :: r) = wordM v (ws r) := by
  have hn : ∀ b ∈ v, b ≠ 32 := by
    rcases h with rfl | rfl | rfl
    · exact v_nb.2.1
    · exact v_nb.2.2.1
    · exact v_nb.2.2.2
  have hc := cutb_app v r hn
  unfold lineM
  rw [if_neg (by rcases h with rfl | rfl | rfl <;> simp [vtick, vpick, vdraw]), hc]
  simp only
  rw [if_neg (by rcases h with rfl | rfl | rfl <;> simp [vtick, vpick, vdraw, vsay]), if_pos h]
theorem doneM_tick (a : Int) : doneM vtick [a] = some [⟨2, 0, a, []⟩] := by unfold doneM; rw [if_pos rfl]
theorem doneM_draw (a b : Int) : doneM vdraw [a, b] = some [⟨4, a, b, []⟩] := by unfold doneM; rw [if_neg (by decide), if_pos rfl]
theorem doneM_pick (a : Int) : doneM vpick [a] = some [⟨3, a, 0, []⟩] := by unfold doneM; rw [if_neg (by decide), if_neg (by decide)]
theorem doneM_picks (a b : Int) (h : 2 ≤ b ∧ b ≤ 10000) : doneM vpick [a, b] = some (List.replicate b.toNat ⟨3, a, 0, []⟩) := by unfold doneM; rw [if_neg (by decide), if_neg (by decide)]; simp only; rw [if_pos h]
theorem numsM_one (x : Int) (h : small x = true) : numsM (ws (dcI x)) = some [x] := by
  rw [ws_one _ (dcI_nb x)]
  simp only [numsM, inum_dcI x (small_bd h), Option.map_some]
theorem numsM_two (x y : Int) (h : small x = true) (g : small y = true) : numsM (ws (dcI x ++ 32 :: dcI y)) = some [x, y] := by
  rw [ws_app _ _ (dcI_nb x), ws_one _ (dcI_nb y)]
  simp only [numsM, inum_dcI x (small_bd h), inum_dcI y (small_bd g), Option.map_some]
/-- What is printed is parsed as it was. -/
theorem lineM_txt (e : Sev) (t : Nat) (h : tellM e = true) (h1 : 1 ≤ t) (h2 : t ≤ 10000) (h3 : e.k ≠ 3 → t = 1) : lineM (txtM e t) = .ok (List.replicate t e) := by
  obtain ⟨k, who, n, line⟩ := e
  unfold tellM at h
  rw [Bool.and_eq_true, Bool.and_eq_true] at h
  obtain ⟨⟨hw, hn⟩, hk⟩ := h
  simp only at hw hn hk h3
  unfold txtM
  simp only
  by_cases k1 : k = 1
  · rw [if_pos k1] at hk ⊢
    rw [Bool.and_eq_true, decide_eq_true_eq, decide_eq_true_eq] at hk
    rw [h3 (by omega), lineM_say]
    unfold sayM
    rw [cutb_app _ _ (dcI_nb who), if_pos rfl, inum_dcI who (small_bd hw), hk.1, k1]
    rfl
  · rw [if_neg k1] at hk ⊢
    by_cases k2 : k = 2
    · rw [if_pos k2] at hk ⊢
      rw [Bool.and_eq_true, decide_eq_true_eq, decide_eq_true_eq] at hk
      rw [h3 (by omega), lineM_verb _ _ (.inl rfl)]
      unfold wordM
      rw [numsM_one n hn]
      simp only [doneM_tick, hk.1, hk.2, k2]
      rfl
    · rw [if_neg k2] at hk ⊢
      by_cases k4 : k = 4
      · rw [if_neg (by omega), if_pos k4] at hk
        rw [if_pos k4]
        rw [decide_eq_true_eq] at hk
        rw [h3 (by omega), lineM_verb _ _ (.inr (.inr rfl))]
        unfold wordM
        rw [numsM_two who n hw hn]
        simp only [doneM_draw, hk, k4]
        rfl
      · rw [if_neg k4]
        by_cases k3 : k = 3
        · rw [if_pos k3] at hk
          rw [Bool.and_eq_true, decide_eq_true_eq, decide_eq_true_eq] at hk
          by_cases ht : t = 1
          · rw [if_pos ht, lineM_verb _ _ (.inr (.inl rfl))]
            unfold wordM
            rw [numsM_one who hw]
            simp only [doneM_pick, hk.1, hk.2, k3, ht]
            rfl
          · rw [if_neg ht, lineM_verb _ _ (.inr (.inl rfl))]
            unfold wordM
            rw [numsM_two who t hw (by unfold small; rw [decide_eq_true (by omega), decide_eq_true (by omega)]; rfl)]
            simp only [doneM_picks who t (by omega), hk.1, hk.2, k3]
            simp
        · rw [if_neg k3, if_neg k4] at hk
          cases hk
theorem parM_lines : ∀ (f : Nat) (l : List Sev) (i : Nat) (a : List Sev), l.length ≤ f → (∀ e ∈ l, tellM e = true) → parM i (linesM f l) a = .ok (a ++ l)
  | 0, [], i, a, _, _ => by simp [linesM, parM]
  | 0, e :: t, i, a, h, _ => by simp at h
  | f + 1, [], i, a, _, _ => by simp [linesM, parM]
  | f + 1, e :: t, i, a, h, ht => by
    obtain ⟨b1, b2, b3, b4⟩ := timesM_bd e t
    simp only [linesM, parM]
    rw [lineM_txt e _ (ht e (List.mem_cons_self ..)) b1 b2 b4]
    simp only
    rw [parM_lines f _ _ _ (by rw [List.length_drop]; simp only [List.length_cons] at h; omega) (fun x hx => ht x (List.mem_cons_of_mem _ (List.mem_of_mem_drop hx)))]
    rw [List.append_assoc, ← timesM_take]

end Go.Proofs.YtafnipgeeampjaaGreatDoor

/-
  The words of a line.
-/
import Derived.Test.YtnppopeoloigeaaDoorRows
import Derived.Test.YtnppopeoloigeaaDoorKit
import Derived.Test.YtnppopeoloigeaaDoorApp
import Derived.Test.YtnppopeoloigeaaDoorQuiet
import Derived.WalkKit
import Derived.ProofKit
import Derived.OpenShut
import Derived.ShutString
import Derived.Below
import Derived.Outline
import Derived.WalkLawsBesides
import Derived.WalkSpells
import Derived.Handy
import Derived.Deep.QuietTactic
import Derived.BigQuiet
import Derived.RegionTactic
import Derived.ChangeAlike
import Derived.Lib.Hide
import Derived.Laws.Rows
import Derived.Laws.Tables
import Derived.Laws.CopyOwn
import Derived.Laws.MakeOwn
import Derived.Laws.Entries
import Derived.Laws.OwnMore
import Derived.Deep.WholeRow
import Derived.Deep.LoopGhost
import Derived.Deep.AppendLies
import Derived.Deep.Draws
import Derived.Maps.AppendAt
import Derived.OwnWalk
import Derived.Deep.RegionHeld3
import Derived.Deep.Cut
import Derived.Deep.CutRange
import Derived.Deep.DeepCutAuto
import Derived.Deep.CutBlock
import Derived.Lib.SliceRun
import Derived.IntWalk
import Derived.Laws.Strings
import Derived.Lib.Bytealg
import Derived.Lib.Strings
import Derived.Laws.Externs
import Derived.Test.YtnppopeoloigeaaDoorLnQ
namespace Go.Proofs.YtnppopeoloigeaaDoor
open Go.ChangeShapes Go.WideShapes Go.ChangeAt Go.RowKit
/-- A word of a line, and where it begins. -/
abbrev Wo := List UInt8 × Nat
def wds : Nat → List UInt8 → Nat → List Wo
  | 0, _, _ => []
  | n + 1, l, f => ((cutb l).1, f) :: (if (cutb l).2.2 = true then wds n (cutb l).2.1 (f + (cutb l).1.length + 1) else [])
theorem cutb_less (l : List UInt8) (h : (cutb l).2.2 = true) : (cutb l).2.1.length < l.length := by
  have := (cutb_join l).1
  have e := congrArg List.length this
  rw [h] at e
  simp [tx] at e
  omega
theorem wds_more : ∀ (n m : Nat) (l : List UInt8) (f : Nat), l.length < n → l.length < m → wds n l f = wds m l f
  | 0, _, _, _, h, _ => by omega
  | _, 0, _, _, _, h => by omega
  | n + 1, m + 1, l, f, h1, h2 => by
    simp only [wds]
    split
    · rename_i hc
      have := cutb_less l hc
      rw [wds_more n m _ _ (by omega) (by omega)]
    · rfl
/-- The words of a line, the first of which begins at f. -/
def wl (l : List UInt8) (f : Nat) : List Wo := wds (l.length + 1) l f
theorem wl_eq (l : List UInt8) (f : Nat) : wl l f = ((cutb l).1, f) :: (if (cutb l).2.2 = true then wl (cutb l).2.1 (f + (cutb l).1.length + 1) else []) := by
  have e : wl l f = ((cutb l).1, f) :: (if (cutb l).2.2 = true then wds l.length (cutb l).2.1 (f + (cutb l).1.length + 1) else []) := rfl
  rw [e]
  split
  · rename_i hc
    have := cutb_less l hc
    unfold wl
    rw [wds_more l.length ((cutb l).2.1.length + 1) _ _ (by omega) (by omega)]
  · rfl
theorem ib_at : ∀ (l : List UInt8) (i : Nat), i < l.length → l.getD i 0 = 32 → (∀ j, j < i → l.getD j 0 ≠ 32) → ib l = (i : Int)
  | [], i, h, _, _ => by simp at h
  | a :: t, i, h, hi, hj => by
    unfold ib Lib.indexByte
    cases i with
    | zero =>
      have : a = 32 := by simpa using hi
      rw [if_pos (by rw [this]; rfl)]; rfl
    | succ i =>
      have ha : a ≠ 32 := by simpa using hj 0 (by omega)
      rw [if_neg (by simpa using ha)]
      have ih := ib_at t i (by simpa using h) (by simpa using hi) (fun j hj2 => by simpa using hj (j + 1) (by omega))
      unfold ib at ih
      rw [ih, if_neg (by rw [beq_iff_eq]; omega)]
      omega
theorem ib_no : ∀ (l : List UInt8), (∀ j, j < l.length → l.getD j 0 ≠ 32) → ib l = -1
  | [], _ => rfl
  | a :: t, hj => by
    unfold ib Lib.indexByte
    have ha : a ≠ 32 := by simpa using hj 0 (by simp)
    rw [if_neg (by simpa using ha)]
    have ih := ib_no t (fun j hj2 => by simpa using hj (j + 1) (by simp; omega))
    unfold ib at ih
    rw [ih]; rfl
/-- What is left to be told at a place: nothing behind the end. -/
def lft (l : List UInt8) (f i : Nat) : List Wo := if i ≤ l.length then wl (l.drop f) f else []
/-- No blank from f up to i. -/
def nob (l : List UInt8) (f i : Nat) : Prop := ∀ j, f ≤ j → j < i → l.getD j 0 ≠ 32
theorem getD_drop (l : List UInt8) (f j : Nat) : (l.drop f).getD j 0 = l.getD (f + j) 0 := by simp [List.getD, List.getElem?_drop]
theorem lft_end (l : List UInt8) (f : Nat) (hf : f ≤ l.length) (h : nob l f l.length) : lft l f l.length = (l.drop f, f) :: lft l (l.length + 1) (l.length + 1) := by
  unfold lft
  rw [if_pos (Nat.le_refl _), if_neg (by omega), wl_eq, cutb_miss (ib_no _ fun j hj => by
    rw [getD_drop]
    rw [List.length_drop] at hj
    exact h _ (by omega) (by omega))]
  rfl
theorem lft_hit (l : List UInt8) (f i : Nat) (hf : f ≤ i) (hi : i < l.length) (h : nob l f i) (hb : l.getD i 0 = 32) : lft l f i = ((l.drop f).take (i - f), f) :: lft l (i + 1) (i + 1) := by
  have hx := ib_at (l.drop f) (i - f) (by rw [List.length_drop]; omega) (by rw [getD_drop, show f + (i - f) = i by omega]; exact hb) (fun j hj => by
    rw [getD_drop]
    exact h _ (by omega) (by omega))
  unfold lft
  rw [if_pos (by omega), if_pos (by omega), wl_eq, cutb_hit hx]
  simp only [if_true, List.length_take, List.length_drop, List.drop_drop]
  rw [show f + (i - f + 1) = i + 1 by omega, show f + min (i - f) (l.length - f) + 1 = i + 1 by omega]
theorem lft_on (l : List UInt8) (f i : Nat) (hi : i < l.length) : lft l f i = lft l f (i + 1) := by
  unfold lft
  rw [if_pos (by omega), if_pos (by omega)]
theorem nob_on (l : List UInt8) (f i : Nat) (h : nob l f i) (hb : l.getD i 0 ≠ 32) : nob l f (i + 1) := fun j h1 h2 => by
  rcases Nat.lt_or_ge j i with h3 | h3
  · exact h j h1 h3
  · rw [show j = i by omega]; exact hb
theorem nob_new (l : List UInt8) (i : Nat) : nob l i i := fun j h1 h2 => by omega
theorem wl_pos (l : List UInt8) (f : Nat) : 0 < (wl l f).length := by rw [wl_eq]; simp
/-- Words as cells. -/
def wv (l : List Wo) : List Value := l.flatMap fun x => [.string (Bs x.1), .int .i64 (x.2 : Int)]
theorem wv_app (a b : List Wo) : wv (a ++ b) = wv a ++ wv b := by simp [wv]
theorem wv_len (l : List Wo) : (wv l).length = l.length * 2 := by
  induction l with
  | nil => rfl
  | cons x t ih => simp [wv] at ih ⊢; omega
theorem wv_get : ∀ (l : List Wo) (k : Nat) (x : Wo), l[k]? = some x → (wv l)[k * 2]? = some (.string (Bs x.1)) ∧ (wv l)[k * 2 + 1]? = some (.int .i64 (x.2 : Int))
  | [], k, x, h => by simp at h
  | y :: t, 0, x, h => by
    simp at h
    subst h
    exact ⟨rfl, rfl⟩
  | y :: t, k + 1, x, h => by
    have ih := wv_get t k x (by simpa using h)
    have e : wv (y :: t) = .string (Bs y.1) :: .int .i64 (y.2 : Int) :: wv t := rfl
    rw [e, show (k + 1) * 2 = k * 2 + 1 + 1 by omega, show k * 2 + 1 + 1 + 1 = (k * 2 + 1) + 1 + 1 by omega]
    exact ih

end Go.Proofs.YtnppopeoloigeaaDoor

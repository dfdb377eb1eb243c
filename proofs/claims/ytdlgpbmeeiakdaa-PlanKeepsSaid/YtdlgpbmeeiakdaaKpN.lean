/-
  PlanKeeps: numbers.
-/
import Derived.Test.YtdlgpbmeeiakdaaKit
import Derived.Test.YtdlgpbmeeiakdaaApp
import Derived.Test.YtdlgpbmeeiakdaaEv
import Derived.Test.YtdlgpbmeeiakdaaEvP
import Derived.Test.YtdlgpbmeeiakdaaEvQ
import Derived.Test.YtdlgpbmeeiakdaaEvR
import Derived.Test.YtdlgpbmeeiakdaaQuiet
import Derived.Test.YtdlgpbmeeiakdaaPlA
import Derived.Test.YtdlgpbmeeiakdaaPlW
import Derived.Test.YtdlgpbmeeiakdaaMxA
import Derived.Test.YtdlgpbmeeiakdaaMxE
import Derived.WalkKit
import Derived.ProofKit
import Derived.OpenShut
import Derived.ShutString
import Derived.Below
import Derived.Outline
import Derived.WalkLawsBesides
import Derived.WalkSpells
import Derived.Handy
import Derived.Deep.QuietTactic
import Derived.BigQuiet
import Derived.RegionTactic
import Derived.ChangeAlike
import Derived.Lib.Hide
import Derived.Laws.Rows
import Derived.Laws.Tables
import Derived.Laws.CopyOwn
import Derived.Laws.MakeOwn
import Derived.Laws.Entries
import Derived.Laws.OwnMore
import Derived.Deep.WholeRow
import Derived.Deep.LoopGhost
import Derived.Deep.AppendLies
import Derived.Deep.Draws
import Derived.Maps.AppendAt
import Derived.OwnWalk
import Derived.Deep.RegionHeld3
import Derived.Deep.Cut
import Derived.Deep.CutRange
import Derived.Deep.DeepCutAuto
import Derived.Deep.CutBlock
import Derived.Lib.SliceRun
import Derived.IntWalk
namespace Go.Proofs.Ytdlgpbmeeiakdaa
open Go.ChangeShapes Go.WideShapes Go.ChangeAt Go.RowKit
/-- Picks of anybody. -/
def isK (e : Ev) : Bool := decide (e.1 = 3)
def cntK (l : List Ev) : Nat := l.foldl (fun s e => s + (if isK e then 1 else 0)) 0
theorem fold_add (p : Ev → Bool) : ∀ (l : List Ev) (s : Nat), l.foldl (fun s e => s + (if p e then 1 else 0)) s = s + l.foldl (fun s e => s + (if p e then 1 else 0)) 0
  | [], s => rfl
  | e :: l, s => by
    show l.foldl _ (s + _) = s + l.foldl _ (0 + _)
    rw [fold_add p l (s + _), fold_add p l (0 + _)]
    omega
theorem cnt_def (a : Int) (l : List Ev) : cnt a l = l.foldl (fun s e => s + (if isP a e then 1 else 0)) 0 := rfl
theorem cnt_nil (a : Int) : cnt a [] = 0 := rfl
theorem cnt_cons (a : Int) (e : Ev) (l : List Ev) : cnt a (e :: l) = (if isP a e then 1 else 0) + cnt a l := by
  rw [cnt_def, cnt_def]
  show l.foldl _ (0 + _) = _
  rw [fold_add]
  omega
theorem cnt_app (a : Int) : ∀ l m : List Ev, cnt a (l ++ m) = cnt a l + cnt a m
  | [], m => by rw [List.nil_append, cnt_nil, Nat.zero_add]
  | e :: l, m => by
    rw [List.cons_append, cnt_cons, cnt_cons, cnt_app a l m]
    omega
theorem cntK_take (l : List Ev) (i : Nat) (e : Ev) (h : l[i]? = some e) : cntK (l.take (i + 1)) = cntK (l.take i) + (if isK e then 1 else 0) := fold_take _ _ l i e h
/-- Without an agent. -/
theorem cnt_wo (a b : Int) : ∀ l : List Ev, cnt b (woF a l) = if b = a then 0 else cnt b l
  | [] => by unfold woF; rw [List.filter_nil, cnt_nil]; split <;> rfl
  | e :: l => by
    have ih := cnt_wo a b l
    unfold woF at ih ⊢
    rw [List.filter_cons, cnt_cons]
    by_cases h : isP a e = true
    · rw [h]
      simp only [Bool.not_true, Bool.false_eq_true, if_false]
      rw [ih]
      by_cases hb : b = a
      · rw [if_pos hb, if_pos hb]
      · rw [if_neg hb, if_neg hb]
        have : isP b e = false := isP_no2 b e (by have := ((isP_iff a e).1 h).2; omega)
        rw [this]; simp
    · rw [Bool.eq_false_iff.2 h]
      simp only [Bool.not_false, if_true]
      rw [cnt_cons, ih]
      by_cases hb : b = a
      · subst hb
        rw [if_pos rfl, if_pos rfl, Bool.eq_false_iff.2 h]; rfl
      · rw [if_neg hb, if_neg hb]
/-- The sum over rows. -/
def sumR (a : Int) : List (List Int) → Nat
  | [] => 0
  | L :: Ls => cnt a (L.map evOf) + sumR a Ls
theorem sumR_snoc (a : Int) (L : List Int) : ∀ Ls, sumR a (Ls ++ [L]) = sumR a Ls + cnt a (L.map evOf)
  | [] => by show cnt a _ + 0 = 0 + _; omega
  | M :: Ls => by
    show cnt a _ + sumR a (Ls ++ [L]) = cnt a _ + sumR a Ls + _
    rw [sumR_snoc a L Ls]; omega
theorem sumR_le (a : Int) (K : Nat) : ∀ Ls : List (List Int), (∀ L ∈ Ls, L.length ≤ K) → sumR a Ls ≤ Ls.length * K
  | [], _ => Nat.zero_le _
  | L :: Ls, h => by
    have h1 := sumR_le a K Ls (fun M hM => h M (List.mem_cons_of_mem _ hM))
    have h2 := cnt_le a (L.map evOf)
    rw [List.length_map] at h2
    have h3 := h L (List.mem_cons_self ..)
    show cnt a _ + sumR a Ls ≤ (Ls.length + 1) * K
    rw [Nat.add_mul]; omega
def sumT (a : Int) (k : Nat) : List Rw → Nat
  | [] => 0
  | r :: rs => cnt a ((r.L.take k).map evOf) + sumT a k rs
theorem sumT_zero (a : Int) : ∀ rs, sumT a 0 rs = 0
  | [] => rfl
  | r :: rs => by show cnt a ((r.L.take 0).map evOf) + sumT a 0 rs = 0; rw [sumT_zero a rs]; rfl
theorem sumT_step (a : Int) (k : Nat) : ∀ rs : List Rw, sumT a (k + 1) rs = sumT a k rs + cnt a ((rs.filterMap (fun r => r.L[k]?)).map evOf)
  | [] => rfl
  | r :: rs => by
    have ih := sumT_step a k rs
    show cnt a ((r.L.take (k + 1)).map evOf) + sumT a (k + 1) rs = cnt a ((r.L.take k).map evOf) + sumT a k rs + _
    rw [ih, List.take_add_one, List.map_append, cnt_app, List.filterMap_cons]
    rcases hx : r.L[k]? with _ | x
    · show _ + cnt a [] + _ = _
      rw [cnt_nil]; dsimp only; omega
    · show _ + cnt a ([x].map evOf) + _ = _
      dsimp only
      rw [List.map_cons, cnt_cons, List.map_nil, cnt_nil]
      rw [List.map_cons, cnt_cons]
      omega
theorem cnt_mxl (a : Int) (rs : List Rw) : ∀ k, cnt a ((mxl rs k).map evOf) = sumT a k rs
  | 0 => by rw [sumT_zero]; rfl
  | k + 1 => by
    rw [sumT_step, ← cnt_mxl a rs k]
    show cnt a ((mxl rs k ++ _).map evOf) = _
    rw [List.map_append, cnt_app]
theorem sumT_all (a : Int) (K : Nat) : ∀ rs : List Rw, (∀ r ∈ rs, r.L.length ≤ K) → sumT a K rs = sumR a (rs.map Rw.L)
  | [], _ => rfl
  | r :: rs, h => by
    show cnt a ((r.L.take K).map evOf) + sumT a K rs = cnt a _ + sumR a (rs.map Rw.L)
    rw [sumT_all a K rs (fun q hq => h q (List.mem_cons_of_mem _ hq)), List.take_of_length_le (h r (List.mem_cons_self ..))]
theorem cnt_mix (a : Int) (rs : List Rw) (K : Nat) (h : ∀ r ∈ rs, r.L.length ≤ K) : cnt a ((mxl rs K).map evOf) = sumR a (rs.map Rw.L) := by
  rw [cnt_mxl, sumT_all a K rs h]
/-- The runs' second numbers. -/
def sum2 : List (Int × Int) → Int
  | [] => 0
  | p :: l => p.2 + sum2 l
theorem sum2_app : ∀ l m, sum2 (l ++ m) = sum2 l + sum2 m
  | [], m => by show sum2 m = 0 + _; omega
  | p :: l, m => by
    show p.2 + sum2 (l ++ m) = p.2 + sum2 l + sum2 m
    rw [sum2_app l m]; omega
theorem sum2_runs (l : List Ev) : ∀ k, k ≤ l.length → sum2 (rsE l k) = ((cntK (l.take k) : Nat) : Int)
  | 0, _ => rfl
  | k + 1, hk => by
    have ih := sum2_runs l k (by omega)
    have he : l[k]? = some l[k] := List.getElem?_eq_getElem (by omega)
    generalize l[k] = e at he
    rw [cntK_take l k e he]
    by_cases h3 : e.1 = 3
    · have hk3 : isK e = true := by unfold isK; simpa using h3
      rw [hk3]
      by_cases hp : pvP l k e.2.1 = true
      · obtain ⟨R, n, h1, h2, _, _⟩ := rsE_more l k e he h3 hp
        rw [h2, sum2_app]
        rw [h1, sum2_app] at ih
        show sum2 R + (n + 1 + 0) = _
        have ih' : sum2 R + (n + 0) = ((cntK (l.take k) : Nat) : Int) := ih
        simp only [if_true]
        omega
      · rw [rsE_new l k e he h3 (by simpa using hp), sum2_app, ih]
        show _ + (1 + 0 : Int) = _
        simp only [if_true]
        omega
    · have hk3 : isK e = false := by unfold isK; simpa using h3
      rw [rsE_skip l k e he h3, ih, hk3]
      simp
theorem sum2_take (l : List (Int × Int)) (k : Nat) (p : Int × Int) (h : l[k]? = some p) : sum2 (l.take (k + 1)) = sum2 (l.take k) + p.2 := by
  rw [List.take_add_one, h, sum2_app]
  show _ + (p.2 + 0) = _
  omega
theorem cntK_le : ∀ l : List Ev, cntK l ≤ l.length
  | [] => Nat.le_refl _
  | e :: l => by
    have := cntK_le l
    unfold cntK at this ⊢
    show l.foldl _ (0 + _) ≤ _
    rw [fold_add isK l (0 + _)]
    have h : (if isK e then 1 else 0) ≤ 1 := by split <;> omega
    show _ ≤ l.length + 1
    omega
theorem rsE_pos (l : List Ev) : ∀ k, k ≤ l.length → ∀ q ∈ rsE l k, 1 ≤ q.2
  | 0, _, q, h => by cases h
  | k + 1, hk, q, h => by
    have ih := rsE_pos l k (by omega)
    have he : l[k]? = some l[k] := List.getElem?_eq_getElem (by omega)
    generalize l[k] = e at he
    by_cases h3 : e.1 = 3
    · by_cases hp : pvP l k e.2.1 = true
      · obtain ⟨R, n, h1, h2, hn, _⟩ := rsE_more l k e he h3 hp
        rw [h2] at h
        rcases List.mem_append.1 h with hq | hq
        · exact ih q (by rw [h1]; exact List.mem_append.2 (.inl hq))
        · rw [List.mem_singleton.1 hq]; show 1 ≤ n + 1; omega
      · rw [rsE_new l k e he h3 (by simpa using hp)] at h
        rcases List.mem_append.1 h with hq | hq
        · exact ih q hq
        · rw [List.mem_singleton.1 hq]; show (1 : Int) ≤ 1; omega
    · rw [rsE_skip l k e he h3] at h
      exact ih q h
theorem sum2_nn : ∀ R : List (Int × Int), (∀ q ∈ R, 1 ≤ q.2) → 0 ≤ sum2 R
  | [], _ => Int.le_refl _
  | q :: R, h => by
    have h1 := sum2_nn R (fun x hx => h x (List.mem_cons_of_mem _ hx))
    have h2 := h q (List.mem_cons_self ..)
    show 0 ≤ q.2 + sum2 R
    omega
theorem sum2_part (R : List (Int × Int)) (h : ∀ q ∈ R, 1 ≤ q.2) (k : Nat) : 0 ≤ sum2 (R.take k) ∧ sum2 (R.take k) ≤ sum2 R := by
  have h1 := sum2_nn (R.take k) (fun q hq => h q (List.mem_of_mem_take hq))
  have h2 := sum2_nn (R.drop k) (fun q hq => h q (List.mem_of_mem_drop hq))
  have h3 := sum2_app (R.take k) (R.drop k)
  rw [List.take_append_drop] at h3
  omega
end Go.Proofs.Ytdlgpbmeeiakdaa

/-
  The model of the stories: no program.
-/
import Derived.Test.YtafnipgeeampjaaGreatDoorRows
import Derived.Test.YtafnipgeeampjaaGreatDoorKit
import Derived.Test.YtafnipgeeampjaaGreatDoorApp
import Derived.Test.YtafnipgeeampjaaGreatDoorQuiet
import Derived.WalkKit
import Derived.ProofKit
import Derived.OpenShut
import Derived.ShutString
import Derived.Below
import Derived.Outline
import Derived.WalkLawsBesides
import Derived.WalkSpells
import Derived.Handy
import Derived.Deep.QuietTactic
import Derived.BigQuiet
import Derived.RegionTactic
import Derived.ChangeAlike
import Derived.Lib.Hide
import Derived.Laws.Rows
import Derived.Laws.Tables
import Derived.Laws.CopyOwn
import Derived.Laws.MakeOwn
import Derived.Laws.Entries
import Derived.Laws.OwnMore
import Derived.Deep.WholeRow
import Derived.Deep.LoopGhost
import Derived.Deep.AppendLies
import Derived.Deep.Draws
import Derived.Maps.AppendAt
import Derived.OwnWalk
import Derived.Deep.RegionHeld3
import Derived.Deep.Cut
import Derived.Deep.CutRange
import Derived.Deep.DeepCutAuto
import Derived.Deep.CutBlock
import Derived.Lib.SliceRun
import Derived.IntWalk
import Derived.Laws.Strings
import Derived.Lib.Bytealg
import Derived.Lib.Strings
import Derived.Laws.Externs
import Derived.Test.YtafnipgeeampjaaGreatDoorLnB
import Derived.Test.YtafnipgeeampjaaGreatDoorLnD
import Derived.Test.YtafnipgeeampjaaGreatDoorLnG
import Derived.Lib.SplitLaws
import Derived.Shelf.Strings.Split
import Derived.Test.YtafnipgeeampjaaGreatDoorSrA
import Derived.Lib.Join
namespace Go.Proofs.YtafnipgeeampjaaGreatDoor
open Go.ChangeShapes Go.WideShapes Go.ChangeAt Go.RowKit
theorem cutb_app (a r : List UInt8) (h : ∀ b ∈ a, b ≠ 32) : cutb (a ++ 32 :: r) = (a, r, true) := by
  have hx : ib (a ++ 32 :: r) = (a.length : Int) := ib_at _ _ (by simp) (by simp [List.getD]) fun j hj => by
    rw [show (a ++ 32 :: r).getD j 0 = a[j] by simp [List.getD, List.getElem?_append, hj]]
    exact h _ (List.getElem_mem hj)
  rw [cutb_hit hx]
  simp
theorem cutb_nb (a : List UInt8) (h : ∀ b ∈ a, b ≠ 32) : cutb a = (a, [], false) :=
  cutb_miss (ib_no _ fun j hj => by
    rw [show a.getD j 0 = a[j] by simp [List.getD, hj]]
    exact h _ (List.getElem_mem hj))
/-- The words alone. -/
def ws (l : List UInt8) : List (List UInt8) := (wl l 0).map Prod.fst
theorem wl_words : ∀ (n : Nat) (l : List UInt8) (f g : Nat), l.length < n → (wl l f).map Prod.fst = (wl l g).map Prod.fst
  | 0, _, _, _, h => by omega
  | n + 1, l, f, g, h => by
    rw [wl_eq l f, wl_eq l g]
    split
    · rename_i hc
      have := cutb_less l hc
      simp only [List.map_cons]
      rw [wl_words n _ _ _ (by omega)]
    · rfl
theorem wl_ws (l : List UInt8) (f : Nat) : (wl l f).map Prod.fst = ws l := wl_words _ l f 0 (Nat.lt_succ_self _)
theorem ws_eq (l : List UInt8) : ws l = (cutb l).1 :: (if (cutb l).2.2 = true then ws (cutb l).2.1 else []) := by
  unfold ws
  rw [wl_eq l 0]
  split
  · rw [List.map_cons, wl_ws]; rfl
  · rfl
theorem ws_join : ∀ (n : Nat) (l : List UInt8), l.length < n → jl (ws l) = l ∧ nbl (ws l)
  | 0, _, h => by omega
  | n + 1, l, h => by
    obtain ⟨h1, h2, h3⟩ := cutb_join l
    rw [ws_eq l, jl_cons]
    rcases hc : (cutb l).2.2 with _ | _
    · rw [if_neg (by decide)]
      rw [hc] at h1
      exact ⟨by rw [show jt [] = [] from rfl]; simpa [tx] using h1.symm, nbl_cons h2 nbl_nil⟩
    · rw [if_pos rfl]
      have hl := cutb_less l hc
      obtain ⟨g1, g2⟩ := ws_join n (cutb l).2.1 (by omega)
      refine ⟨?_, nbl_cons h2 g2⟩
      rcases hw : ws (cutb l).2.1 with _ | ⟨x, L⟩
      · rw [ws_eq] at hw; cases hw
      · rw [hw, jl_cons] at g1
        rw [jt_cons, g1]
        rw [hc] at h1
        simpa [tx] using h1.symm
theorem ws_jl (l : List UInt8) : jl (ws l) = l := (ws_join _ l (Nat.lt_succ_self _)).1
theorem ws_nb (l : List UInt8) : nbl (ws l) := (ws_join _ l (Nat.lt_succ_self _)).2
theorem ws_pos (l : List UInt8) : 0 < (ws l).length := by rw [ws_eq]; simp
theorem ws_app (a r : List UInt8) (h : ∀ b ∈ a, b ≠ 32) : ws (a ++ 32 :: r) = a :: ws r := by
  rw [ws_eq, cutb_app a r h, if_pos rfl]
theorem ws_one (a : List UInt8) (h : ∀ b ∈ a, b ≠ 32) : ws a = [a] := by
  rw [ws_eq, cutb_nb a h, if_neg (fun e => by cases e)]
/-- A word's number. -/
def neg (l : List UInt8) : Bool := l.head? == some 45
def inum (l : List UInt8) : Option Int :=
  if neg l = true then (if digs l.tail = true ∧ l.tail ≠ [48] then some (-(nv l.tail : Int)) else none)
  else if digs l = true then some (nv l : Int) else none
theorem digs_zero {l : List UInt8} (h : digs l = true) : nv l = 0 ↔ l = [48] := by
  constructor
  · intro e
    have := dcl_nv h
    rw [e] at this
    rw [← this, dcl_small (by decide)]; rfl
  · rintro rfl; rfl
/-- A number as a word. -/
def dcI (x : Int) : List UInt8 := if x < 0 then 45 :: dcl x.natAbs else dcl x.natAbs
theorem dcl_dig (n : Nat) : ∀ b ∈ dcl n, dig b = true := fun b hb => List.all_eq_true.1 (dcl_all n) b hb
theorem dcl_neg (n : Nat) : neg (dcl n) = false := by
  unfold neg
  rcases e : dcl n with _ | ⟨a, t⟩
  · rfl
  · have := dcl_dig n a (by rw [e]; exact List.mem_cons_self ..)
    rw [beq_eq_false_iff_ne]
    intro h
    have : a = 45 := by simpa using h
    subst this
    exact absurd ‹dig 45 = true› (by decide)
theorem dcI_nb (x : Int) : ∀ b ∈ dcI x, b ≠ 32 := by
  unfold dcI
  split
  · intro b hb
    rcases List.mem_cons.1 hb with rfl | hb
    · decide
    · exact dcl_nb _ b hb
  · exact dcl_nb _
theorem inum_dcI (x : Int) (h : -9999999 ≤ x ∧ x ≤ 9999999) : inum (dcI x) = some x := by
  unfold dcI
  by_cases hx : x < 0
  · rw [if_pos hx]
    unfold inum
    rw [if_pos (show neg (45 :: dcl x.natAbs) = true from rfl)]
    have hd := dcl_digs (n := x.natAbs) (by omega)
    rw [if_pos ⟨hd, fun e => by
      have := (digs_zero hd).2 e
      rw [nv_dcl] at this
      omega⟩, List.tail_cons, nv_dcl]
    congr 1
    omega
  · rw [if_neg hx]
    unfold inum
    rw [if_neg (by rw [dcl_neg]; decide), if_pos (dcl_digs (by omega)), nv_dcl]
    congr 1
    omega
/-- An event. -/
structure Sev where
  k : Int
  who : Int
  n : Int
  line : List UInt8
  deriving DecidableEq
/-- The events of a line; else a code and a place. -/
inductive Sr where
  | ok (l : List Sev)
  | er (c p : Nat)
def vsay : List UInt8 := [115, 97, 121]
def vtick : List UInt8 := [116, 105, 99, 107]
def vpick : List UInt8 := [112, 105, 99, 107]
def vdraw : List UInt8 := [100, 114, 97, 119]
def doneM (v : List UInt8) (n : List Int) : Option (List Sev) :=
  if v = vtick then (match n with | [a] => some [⟨2, 0, a, []⟩] | _ => none)
  else if v = vdraw then (match n with | [a, b] => some [⟨4, a, b, []⟩] | _ => none)
  else (match n with
    | [a] => some [⟨3, a, 0, []⟩]
    | [a, b] => if 2 ≤ b ∧ b ≤ 10000 then some (List.replicate b.toNat ⟨3, a, 0, []⟩) else none
    | _ => none)
def sayM (r : List UInt8) : Sr :=
  if (cutb r).2.2 = true then (match inum (cutb r).1 with | some n => .ok [⟨1, n, 0, (cutb r).2.1⟩] | none => .er 13 4) else .er 13 4
def numsM : List (List UInt8) → Option (List Int)
  | [] => some []
  | w :: L => match inum w with | none => none | some a => (numsM L).map (a :: ·)
def wordM (v : List UInt8) (W : List (List UInt8)) : Sr :=
  match numsM W with
  | none => .er 13 (v.length + 1)
  | some n => match doneM v n with | some l => .ok l | none => .er 10 0
def lineM (s : List UInt8) : Sr :=
  if s = [] ∨ s.head? = some 35 then .ok []
  else if (cutb s).1 = vsay then sayM (cutb s).2.1
  else if (cutb s).1 = vtick ∨ (cutb s).1 = vpick ∨ (cutb s).1 = vdraw then wordM (cutb s).1 (ws (cutb s).2.1)
  else .er 10 0
theorem numsM_nil : numsM [[]] = none := rfl
/-- The document reads the words at once. -/
theorem lineM_tail (s : List UInt8) (h : 0 < (ws s).tail.length) : (ws s).tail = ws (cutb s).2.1 := by
  rw [ws_eq] at h ⊢
  rcases hc : (cutb s).2.2 with _ | _
  · rw [hc, if_neg (by decide)] at h; simp at h
  · rw [if_pos rfl]; rfl
theorem lineM_bare (s : List UInt8) (h : (ws s).tail = []) : (cutb s).2.1 = [] ∧ (cutb s).2.2 = false := by
  obtain ⟨_, _, h3⟩ := cutb_join s
  rcases hc : (cutb s).2.2 with _ | _
  · exact ⟨h3 hc, rfl⟩
  · rw [ws_eq, hc, if_pos rfl] at h
    have := ws_pos (cutb s).2.1
    rw [List.tail_cons] at h
    rw [h] at this; simp at this
theorem doneM_len {v : List UInt8} {n : List Int} {l : List Sev} (h : doneM v n = some l) : 0 < l.length ∧ l.length ≤ 10000 := by
  unfold doneM at h
  split at h
  · split at h <;> simp at h; subst h; simp
  · split at h
    · split at h <;> simp at h; subst h; simp
    · split at h
      · simp at h; subst h; simp
      · split at h
        · rename_i hb; simp at h; subst h; rw [List.length_replicate]; omega
        · cases h
      · cases h
theorem lineM_len {s : List UInt8} {l : List Sev} (h : lineM s = .ok l) : l.length ≤ 10000 := by
  unfold lineM at h
  split at h
  · simp at h; subst h; simp
  · split at h
    · unfold sayM at h
      split at h
      · split at h <;> simp at h; subst h; simp
      · cases h
    · split at h
      · unfold wordM at h
        split at h
        · cases h
        · split at h
          · rename_i e; simp at h; subst h; exact (doneM_len e).2
          · cases h
      · cases h
/-- The events of lines; else a line's number, a code and a place. -/
inductive Pr where
  | ok (l : List Sev)
  | er (i c p : Nat)
def parM : Nat → List (List UInt8) → List Sev → Pr
  | _, [], a => .ok a
  | i, s :: L, a => match lineM s with | .ok l => parM (i + 1) L (a ++ l) | .er c p => .er (i + 1) c p
theorem parM_app : ∀ (A : List (List UInt8)) (i : Nat) (a x : List Sev) (B : List (List UInt8)), parM i A a = .ok x → parM i (A ++ B) a = parM (i + A.length) B x
  | [], i, a, x, B, h => by
    simp only [parM, Pr.ok.injEq] at h
    subst h; rfl
  | s :: A, i, a, x, B, h => by
    simp only [parM, List.cons_append] at h ⊢
    rcases hl : lineM s with l | ⟨c, p⟩
    · rw [hl] at h
      simp only at h ⊢
      rw [parM_app A (i + 1) _ x B h, List.length_cons]
      congr 1; omega
    · rw [hl] at h; cases h
theorem parM_acc : ∀ (A : List (List UInt8)) (i j : Nat) (a b x : List Sev), parM i A a = .ok x → ∃ y, x = a ++ y ∧ parM j A b = .ok (b ++ y)
  | [], i, j, a, b, x, h => by
    simp only [parM, Pr.ok.injEq] at h
    subst h
    exact ⟨[], by simp, by simp [parM]⟩
  | s :: A, i, j, a, b, x, h => by
    simp only [parM] at h ⊢
    rcases hl : lineM s with l | ⟨c, p⟩
    · rw [hl] at h
      simp only at h
      obtain ⟨y, h1, h2⟩ := parM_acc A (i + 1) (j + 1) (a ++ l) (b ++ l) x h
      exact ⟨l ++ y, by rw [h1, List.append_assoc], by simp only; rw [h2, List.append_assoc]⟩
    · rw [hl] at h; cases h
theorem parM_len : ∀ (A : List (List UInt8)) (i : Nat) (a x : List Sev), parM i A a = .ok x → x.length ≤ a.length + A.length * 10000
  | [], i, a, x, h => by
    simp only [parM, Pr.ok.injEq] at h
    subst h; simp
  | s :: A, i, a, x, h => by
    simp only [parM] at h
    rcases hl : lineM s with l | ⟨c, p⟩
    · rw [hl] at h
      have := parM_len A _ _ x h
      have h2 := lineM_len hl
      rw [List.length_append] at this
      rw [List.length_cons]
      omega
    · rw [hl] at h; cases h
/-- Two empty lines between. -/
theorem parM_joins (A B : List (List UInt8)) (u v : List UInt8) (x y : List Sev) (hu : lineM u = .ok []) (hv : lineM v = .ok []) (hA : parM 0 A [] = .ok x) (hB : parM 0 B [] = .ok y) : parM 0 (A ++ [u, v] ++ B) [] = .ok (x ++ y) := by
  have h1 := parM_app A 0 [] x [u, v] hA
  have h2 : parM (0 + A.length) [u, v] x = .ok x := by
    simp only [parM, hu, hv, List.append_nil]
  rw [h2] at h1
  rw [parM_app _ _ _ _ B h1]
  obtain ⟨z, e1, e2⟩ := parM_acc B 0 (0 + (A ++ [u, v]).length) [] x y hB
  rw [e2, e1]; rfl

end Go.Proofs.YtafnipgeeampjaaGreatDoor

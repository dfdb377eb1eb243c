/-
  The words of a reply as a line.
-/
import Derived.Test.YtinciphhoieonaaGreatDoorRows
import Derived.Test.YtinciphhoieonaaGreatDoorKit
import Derived.Test.YtinciphhoieonaaGreatDoorApp
import Derived.Test.YtinciphhoieonaaGreatDoorQuiet
import Derived.WalkKit
import Derived.ProofKit
import Derived.OpenShut
import Derived.ShutString
import Derived.Below
import Derived.Outline
import Derived.WalkLawsBesides
import Derived.WalkSpells
import Derived.Handy
import Derived.Deep.QuietTactic
import Derived.BigQuiet
import Derived.RegionTactic
import Derived.ChangeAlike
import Derived.Lib.Hide
import Derived.Laws.Rows
import Derived.Laws.Tables
import Derived.Laws.CopyOwn
import Derived.Laws.MakeOwn
import Derived.Laws.Entries
import Derived.Laws.OwnMore
import Derived.Deep.WholeRow
import Derived.Deep.LoopGhost
import Derived.Deep.AppendLies
import Derived.Deep.Draws
import Derived.Maps.AppendAt
import Derived.OwnWalk
import Derived.Deep.RegionHeld3
import Derived.Deep.Cut
import Derived.Deep.CutRange
import Derived.Deep.DeepCutAuto
import Derived.Deep.CutBlock
import Derived.Lib.SliceRun
import Derived.IntWalk
import Derived.Laws.Strings
import Derived.Lib.Bytealg
import Derived.Lib.Strings
import Derived.Laws.Externs
import Derived.Test.YtinciphhoieonaaGreatDoorAnM
import Derived.Lib.Join
namespace Go.Proofs.YtinciphhoieonaaGreatDoor
open Go.ChangeShapes Go.WideShapes Go.ChangeAt Go.RowKit
theorem tw_app : ∀ (V W : List UInt8), (∀ x ∈ V, x ≠ 32) → (W = [] ∨ ∃ W', W = 32 :: W') → (V ++ W).takeWhile (fun x => !(x == 32)) = V
  | [], W, _, h => by
    rcases h with rfl | ⟨W', rfl⟩
    · rfl
    · simp
  | a :: V, W, hV, h => by
    have ha : (a == 32) = false := beq_eq_false_iff_ne.2 (hV a (List.mem_cons_self ..))
    rw [List.cons_append, List.takeWhile_cons, ha]
    simp only [Bool.not_false, if_true]
    rw [tw_app V W (fun x hx => hV x (List.mem_cons_of_mem _ hx)) h]

theorem tw_head : ∀ (V W : List UInt8), (∀ x ∈ V, x ≠ 32) → (W = [] ∨ ∃ W', W = 32 :: W') → (V ++ W).dropWhile (fun x => !(x == 32)) = W
  | [], W, _, hW => by
    rcases hW with rfl | ⟨W', rfl⟩
    · rfl
    · rfl
  | a :: V, W, hV, hW => by
    have ha : (a == 32) = false := beq_eq_false_iff_ne.2 (hV a (List.mem_cons_self ..))
    rw [List.cons_append, List.dropWhile_cons, ha]
    exact tw_head V W (fun x hx => hV x (List.mem_cons_of_mem _ hx)) hW
/-- Words, each with the blank ahead of it. -/
def jt (L : List (List UInt8)) : List UInt8 := L.flatMap fun x => 32 :: x
theorem jt_head (L : List (List UInt8)) : jt L = [] ∨ ∃ W', jt L = 32 :: W' := by
  cases L with
  | nil => exact .inl rfl
  | cons x t => exact .inr ⟨_, rfl⟩
def nbl (L : List (List UInt8)) : Prop := ∀ x ∈ L, ∀ b ∈ x, b ≠ 32
theorem jt_inj : ∀ {L M : List (List UInt8)}, nbl L → nbl M → jt L = jt M → L = M
  | [], [], _, _, _ => rfl
  | [], y :: M, _, _, h => by cases h
  | x :: L, [], _, _, h => by cases h
  | x :: L, y :: M, hL, hM, h => by
    have h' : x ++ jt L = y ++ jt M := by
      have : (32 : UInt8) :: (x ++ jt L) = 32 :: (y ++ jt M) := h
      exact (List.cons.inj this).2
    have hx := hL x (List.mem_cons_self ..)
    have hy := hM y (List.mem_cons_self ..)
    have e1 : x = y := by
      rw [← tw_app x (jt L) hx (jt_head L), ← tw_app y (jt M) hy (jt_head M), h']
    have e2 : jt L = jt M := by
      rw [← tw_head x (jt L) hx (jt_head L), ← tw_head y (jt M) hy (jt_head M), h']
    rw [e1, jt_inj (fun z hz => hL z (List.mem_cons_of_mem _ hz)) (fun z hz => hM z (List.mem_cons_of_mem _ hz)) e2]
/-- Words as a line. -/
def jl (L : List (List UInt8)) : List UInt8 := Lib.join L [32]
theorem jl_cons (x : List UInt8) (L : List (List UInt8)) : jl (x :: L) = x ++ jt L := by
  unfold jl
  rw [Lib.join_cons]
  rfl
theorem jl_inj {x y : List UInt8} {L M : List (List UInt8)} (hL : nbl (x :: L)) (hM : nbl (y :: M)) (h : jl (x :: L) = jl (y :: M)) : x :: L = y :: M := by
  rw [jl_cons, jl_cons] at h
  apply jt_inj hL hM
  show 32 :: (x ++ jt L) = 32 :: (y ++ jt M)
  rw [h]
theorem dcl_nb (n : Nat) : ∀ x ∈ dcl n, x ≠ 32 := by
  induction n using Nat.strongRecOn with
  | ind n ih =>
    have hd : ∀ {m : Nat}, m < 10 → dg m ≠ 32 := fun {m} hm h2 => by
      have e := ofNat_dig hm
      rw [h2] at e
      have : (32 : UInt8).toNat = 32 := rfl
      omega
    by_cases h : n < 10
    · rw [dcl_small h]
      intro x hx
      rw [List.mem_singleton.1 hx]
      exact hd h
    · rw [dcl_big h]
      intro x hx
      rcases List.mem_append.1 hx with hx | hx
      · exact ih _ (by omega) x hx
      · rw [List.mem_singleton.1 hx]
        exact hd (by omega)
theorem nbl_dcl (n : Nat) : ∀ b ∈ dcl n, b ≠ 32 := dcl_nb n
theorem rn_nb (k : Int) : ∀ b ∈ rn k, b ≠ 32 := by
  unfold rn
  split
  · decide
  · split
    · decide
    · split
      · decide
      · split
        · decide
        · split <;> decide
theorem ln_nb (k : Int) : ∀ b ∈ ln k, b ≠ 32 := by
  unfold ln
  split
  · decide
  · split
    · decide
    · split
      · decide
      · split
        · decide
        · split
          · decide
          · split <;> decide
theorem vbl_nb (k : Int) : ∀ b ∈ vbl k, b ≠ 32 := by
  unfold vbl
  generalize k.toNat = n
  match n with
  | 0 => decide
  | 1 => decide
  | 2 => decide
  | 3 => decide
  | 4 => decide
  | n + 5 =>
    intro b hb
    have e : (vb (n + 5)).data.toList = [] := rfl
    rw [e] at hb
    cases hb
theorem nbl_app {L M : List (List UInt8)} (h : nbl L) (g : nbl M) : nbl (L ++ M) := fun x hx => by
  rcases List.mem_append.1 hx with hx | hx
  · exact h x hx
  · exact g x hx
theorem nbl_cons {x : List UInt8} {L : List (List UInt8)} (h : ∀ b ∈ x, b ≠ 32) (g : nbl L) : nbl (x :: L) := fun y hy => by
  rcases List.mem_cons.1 hy with rfl | hy
  · exact h
  · exact g y hy
theorem nbl_nil : nbl [] := fun x hx => by cases hx
theorem tl_nb (r : Rp) : nbl (tl_ r) := by
  unfold tl_
  split
  · exact nbl_cons (by decide) (nbl_cons (dcl_nb _) nbl_nil)
  · split
    · exact nbl_cons (by decide) nbl_nil
    · split
      · split
        · exact nbl_cons (rn_nb _) (nbl_cons (dcl_nb _) (nbl_cons (dcl_nb _) (nbl_cons (dcl_nb _) nbl_nil)))
        · exact nbl_cons (rn_nb _) nbl_nil
      · split
        · intro x hx
          obtain ⟨y, _, hy⟩ := List.mem_flatMap.1 hx
          exact nbl_cons (ln_nb y.k) (nbl_cons (dcl_nb _) (nbl_cons (dcl_nb _) nbl_nil)) x hy
        · exact nbl_cons (by decide) nbl_nil
theorem aw_nb (r : Rp) : nbl (aw r) := by
  unfold aw
  refine nbl_cons (dcl_nb _) (nbl_cons (vbl_nb _) (nbl_app ?_ (nbl_app ?_ (tl_nb r))))
  · split
    · exact nbl_cons (dcl_nb _) nbl_nil
    · exact nbl_nil
  · split
    · exact nbl_cons (dcl_nb _) nbl_nil
    · exact nbl_nil
/-- Replies that differ have lines that differ. -/
theorem line_inj {a b : Rp} (ha : Rt a) (hb : Rt b) (h : jl (aw a) = jl (aw b)) : a = b := by
  refine aw_inj ha hb ?_
  have h1 := aw_nb a
  have h2 := aw_nb b
  unfold aw at h h1 h2 ⊢
  exact jl_inj h1 h2 h

end Go.Proofs.YtinciphhoieonaaGreatDoor

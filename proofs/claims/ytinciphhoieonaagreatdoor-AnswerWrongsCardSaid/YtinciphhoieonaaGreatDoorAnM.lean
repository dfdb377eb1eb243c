/-
  Replies, and the words that tell them.
-/
import Derived.Test.YtinciphhoieonaaGreatDoorRows
import Derived.Test.YtinciphhoieonaaGreatDoorKit
import Derived.Test.YtinciphhoieonaaGreatDoorApp
import Derived.Test.YtinciphhoieonaaGreatDoorQuiet
import Derived.WalkKit
import Derived.ProofKit
import Derived.OpenShut
import Derived.ShutString
import Derived.Below
import Derived.Outline
import Derived.WalkLawsBesides
import Derived.WalkSpells
import Derived.Handy
import Derived.Deep.QuietTactic
import Derived.BigQuiet
import Derived.RegionTactic
import Derived.ChangeAlike
import Derived.Lib.Hide
import Derived.Laws.Rows
import Derived.Laws.Tables
import Derived.Laws.CopyOwn
import Derived.Laws.MakeOwn
import Derived.Laws.Entries
import Derived.Laws.OwnMore
import Derived.Deep.WholeRow
import Derived.Deep.LoopGhost
import Derived.Deep.AppendLies
import Derived.Deep.Draws
import Derived.Maps.AppendAt
import Derived.OwnWalk
import Derived.Deep.RegionHeld3
import Derived.Deep.Cut
import Derived.Deep.CutRange
import Derived.Deep.DeepCutAuto
import Derived.Deep.CutBlock
import Derived.Lib.SliceRun
import Derived.IntWalk
import Derived.Laws.Strings
import Derived.Lib.Bytealg
import Derived.Lib.Strings
import Derived.Laws.Externs
import Derived.Test.YtinciphhoieonaaGreatDoorAnH
import Derived.Test.YtinciphhoieonaaGreatDoorLnC
namespace Go.Proofs.YtinciphhoieonaaGreatDoor
open Go.ChangeShapes Go.WideShapes Go.ChangeAt Go.RowKit
/-- A look at a cell; a reply. -/
structure Lk where
  k : Int
  l : Int
  f : Int
structure Rp where
  k : Int
  cd : Int
  t : Int
  i : Int
  c : Int
  ask : Bool
  r0 : Int
  r1 : Int
  r2 : Int
  r3 : Int
  r4 : Int
  r5 : Int
  L : List Lk
def mostB (n : Int) : Bool := decide (0 ≤ n) && decide (n ≤ 9999999)
def lkR (x : Lk) : Bool := (decide (x.k = 0) || decide (x.k = 1) || (decide (5 ≤ x.k) && decide (x.k ≤ 8))) && (mostB x.l && mostB x.f)
def recZ (r : Rp) : Bool := decide (r.r0 = 0) && (decide (r.r1 = 0) && (decide (r.r2 = 0) && (decide (r.r3 = 0) && (decide (r.r4 = 0) && decide (r.r5 = 0)))))
def recR (r : Rp) : Bool := decide (1 ≤ r.r0) && (decide (r.r0 ≤ 5) && (mostB r.r1 && (mostB r.r2 && (mostB r.r3 && (decide (r.r4 = 0) && decide (r.r5 = 0))))))
/-- Whether a reply may be told. -/
structure Rt (r : Rp) : Prop where
  k : 1 ≤ r.k ∧ r.k ≤ 4
  t : 0 ≤ r.t ∧ r.t ≤ 1000000
  cd : 0 ≤ r.cd
  i : 0 ≤ r.i ∧ r.i ≤ 9999999
  c : 0 ≤ r.c ∧ r.c ≤ 9999999
  i3 : r.i ≠ 0 → r.k ≤ 2
  c4 : r.c ≠ 0 → r.k ≤ 3
  ask : r.ask = true → r.k = 2 ∧ r.cd = 0
  rec_ : recZ r = true ∨ (r.k = 3 ∧ r.cd = 0 ∧ recR r = true)
  look : r.L = [] ∨ (r.k = 4 ∧ r.cd = 0 ∧ ∀ x ∈ r.L, lkR x = true)
def wErr : List UInt8 := [101, 114, 114, 111, 114]
def wAsk : List UInt8 := [97, 115, 107, 101, 100]
def wOk : List UInt8 := [111, 107]
def wFilled : List UInt8 := [102, 105, 108, 108, 101, 100]
def wCan : List UInt8 := [99, 97, 110, 99, 101, 108, 108, 101, 100]
def wExp : List UInt8 := [101, 120, 112, 105, 114, 101, 100]
def wRet : List UInt8 := [114, 101, 116, 105, 114, 101, 100]
/-- What a record's kind is called; what a cell's. -/
def rn (k : Int) : List UInt8 := if k = 1 then [102, 105, 108, 108] else if k = 2 then wFilled else if k = 3 then wCan else if k = 4 then wExp else if k = 5 then wRet else [110, 111, 110, 101]
def ln (k : Int) : List UInt8 := if k = 0 then [102, 114, 101, 101] else if 1 ≤ k ∧ k ≤ 4 then [108, 105, 118, 101] else if k = 5 then wFilled else if k = 6 then wCan else if k = 7 then wExp else if k = 8 then wRet else [63]
def lw (x : Lk) : List (List UInt8) := [ln x.k, dcl x.l.toNat, dcl x.f.toNat]
/-- What stands behind the cell. -/
def tl_ (r : Rp) : List (List UInt8) := if r.cd ≠ 0 then [wErr, dcl r.cd.toNat] else if r.ask = true then [wAsk] else if r.k = 3 then (if r.r0 ≠ 0 then [rn r.r0, dcl r.r1.toNat, dcl r.r2.toNat, dcl r.r3.toNat] else [rn r.r0]) else if r.k = 4 then r.L.flatMap lw else [wOk]
def vbl (k : Int) : List UInt8 := (vb k.toNat).data.toList
/-- A right reply's words. -/
def aw (r : Rp) : List (List UInt8) := dcl r.t.toNat :: vbl r.k :: ((if r.k ≤ 2 then [dcl r.i.toNat] else []) ++ ((if r.k ≤ 3 then [dcl r.c.toNat] else []) ++ tl_ r))
theorem dcl_inj {a b : Nat} (h : dcl a = dcl b) : a = b := by rw [← nv_dcl a, h, nv_dcl]
theorem dcl_int {a b : Int} (ha : 0 ≤ a) (hb : 0 ≤ b) (h : dcl a.toNat = dcl b.toNat) : a = b := by
  have := dcl_inj h
  omega
theorem vbl_inj {a b : Int} (ha : 1 ≤ a ∧ a ≤ 4) (hb : 1 ≤ b ∧ b ≤ 4) (h : vbl a = vbl b) : a = b := by
  rcases (show a = 1 ∨ a = 2 ∨ a = 3 ∨ a = 4 by omega) with rfl | rfl | rfl | rfl <;> rcases (show b = 1 ∨ b = 2 ∨ b = 3 ∨ b = 4 by omega) with rfl | rfl | rfl | rfl <;> first | rfl | (exfalso; revert h; decide)
theorem lkR_out {x : Lk} (h : lkR x = true) : (x.k = 0 ∨ x.k = 1 ∨ x.k = 5 ∨ x.k = 6 ∨ x.k = 7 ∨ x.k = 8) ∧ (0 ≤ x.l ∧ x.l ≤ 9999999) ∧ (0 ≤ x.f ∧ x.f ≤ 9999999) := by
  unfold lkR mostB at h
  simp at h
  omega
theorem recR_out {r : Rp} (h : recR r = true) : (1 ≤ r.r0 ∧ r.r0 ≤ 5) ∧ (0 ≤ r.r1 ∧ r.r1 ≤ 9999999) ∧ (0 ≤ r.r2 ∧ r.r2 ≤ 9999999) ∧ (0 ≤ r.r3 ∧ r.r3 ≤ 9999999) ∧ r.r4 = 0 ∧ r.r5 = 0 := by
  unfold recR mostB at h
  simp at h
  omega
theorem recZ_out {r : Rp} (h : recZ r = true) : r.r0 = 0 ∧ r.r1 = 0 ∧ r.r2 = 0 ∧ r.r3 = 0 ∧ r.r4 = 0 ∧ r.r5 = 0 := by
  unfold recZ at h
  simp at h
  omega
theorem ln_inj {a b : Int} (ha : a = 0 ∨ a = 1 ∨ a = 5 ∨ a = 6 ∨ a = 7 ∨ a = 8) (hb : b = 0 ∨ b = 1 ∨ b = 5 ∨ b = 6 ∨ b = 7 ∨ b = 8) (h : ln a = ln b) : a = b := by
  rcases ha with rfl | rfl | rfl | rfl | rfl | rfl <;> rcases hb with rfl | rfl | rfl | rfl | rfl | rfl <;> first | rfl | (exfalso; revert h; decide)
theorem rn_inj {a b : Int} (ha : 0 ≤ a ∧ a ≤ 5) (hb : 0 ≤ b ∧ b ≤ 5) (h : rn a = rn b) : a = b := by
  rcases (show a = 0 ∨ a = 1 ∨ a = 2 ∨ a = 3 ∨ a = 4 ∨ a = 5 by omega) with rfl | rfl | rfl | rfl | rfl | rfl <;> rcases (show b = 0 ∨ b = 1 ∨ b = 2 ∨ b = 3 ∨ b = 4 ∨ b = 5 by omega) with rfl | rfl | rfl | rfl | rfl | rfl <;> first | rfl | (exfalso; revert h; decide)
theorem lw_inj : ∀ {L M : List Lk}, (∀ x ∈ L, lkR x = true) → (∀ x ∈ M, lkR x = true) → L.flatMap lw = M.flatMap lw → L = M
  | [], [], _, _, _ => rfl
  | [], y :: M, _, _, h => by cases h
  | x :: L, [], _, _, h => by cases h
  | x :: L, y :: M, hL, hM, h => by
    rw [List.flatMap_cons, List.flatMap_cons] at h
    unfold lw at h
    simp only [List.cons_append, List.nil_append, List.cons.injEq] at h
    obtain ⟨h1, h2, h3, h4⟩ := h
    obtain ⟨a1, a2, a3⟩ := lkR_out (hL x (List.mem_cons_self ..))
    obtain ⟨b1, b2, b3⟩ := lkR_out (hM y (List.mem_cons_self ..))
    have e1 := ln_inj a1 b1 h1
    have e2 := dcl_int a2.1 b2.1 h2
    have e3 := dcl_int a3.1 b3.1 h3
    have e : x = y := by
      obtain ⟨xk, xl, xf⟩ := x
      obtain ⟨yk, yl, yf⟩ := y
      simp only at e1 e2 e3
      rw [e1, e2, e3]
    rw [e, lw_inj (fun z hz => hL z (List.mem_cons_of_mem _ hz)) (fun z hz => hM z (List.mem_cons_of_mem _ hz)) h4]
theorem flat_len : ∀ L : List Lk, (L.flatMap lw).length = 3 * L.length
  | [] => rfl
  | x :: L => by rw [List.flatMap_cons, List.length_append, flat_len L]; simp [lw]; omega
theorem tl_two {b : Rp} (h : b.cd = 0) : (tl_ b).length ≠ 2 := by
  unfold tl_
  rw [if_neg (by omega)]
  split
  · decide
  · split
    · split <;> simp
    · split
      · rw [flat_len]; omega
      · decide
theorem rp_eq {a b : Rp} (h1 : a.k = b.k) (h2 : a.cd = b.cd) (h3 : a.t = b.t) (h4 : a.i = b.i) (h5 : a.c = b.c) (h6 : a.ask = b.ask) (h7 : a.r0 = b.r0) (h8 : a.r1 = b.r1) (h9 : a.r2 = b.r2) (h10 : a.r3 = b.r3) (h11 : a.r4 = b.r4) (h12 : a.r5 = b.r5) (h13 : a.L = b.L) : a = b := by
  obtain ⟨k, cd, t, i, c, ask, r0, r1, r2, r3, r4, r5, L⟩ := a
  obtain ⟨k', cd', t', i', c', ask', r0', r1', r2', r3', r4', r5', L'⟩ := b
  simp only at h1 h2 h3 h4 h5 h6 h7 h8 h9 h10 h11 h12 h13
  subst h1 h2 h3 h4 h5 h6 h7 h8 h9 h10 h11 h12 h13
  rfl
/-- What a right reply has of a record: none, or one that a poll without a code tells. -/
theorem Rt.recs {r : Rp} (h : Rt r) : (r.r0 = 0 ∧ r.r1 = 0 ∧ r.r2 = 0 ∧ r.r3 = 0 ∧ r.r4 = 0 ∧ r.r5 = 0) ∨ (r.k = 3 ∧ r.cd = 0 ∧ (1 ≤ r.r0 ∧ r.r0 ≤ 5) ∧ (0 ≤ r.r1 ∧ r.r1 ≤ 9999999) ∧ (0 ≤ r.r2 ∧ r.r2 ≤ 9999999) ∧ (0 ≤ r.r3 ∧ r.r3 ≤ 9999999) ∧ r.r4 = 0 ∧ r.r5 = 0) := by
  rcases h.rec_ with h1 | ⟨h1, h2, h3⟩
  · exact .inl (recZ_out h1)
  · exact .inr ⟨h1, h2, recR_out h3⟩
/-- Right replies of the same words are one. -/
theorem aw_inj {a b : Rp} (ha : Rt a) (hb : Rt b) (h : aw a = aw b) : a = b := by
  unfold aw at h
  rw [List.cons.injEq, List.cons.injEq] at h
  obtain ⟨h1, h2, h3⟩ := h
  have et := dcl_int ha.t.1 hb.t.1 h1
  have ek := vbl_inj ha.k hb.k h2
  have hi : a.i = b.i ∧ ((if a.k ≤ 3 then [dcl a.c.toNat] else []) ++ tl_ a) = ((if b.k ≤ 3 then [dcl b.c.toNat] else []) ++ tl_ b) := by
    by_cases hk : a.k ≤ 2
    · rw [if_pos hk, if_pos (show b.k ≤ 2 by omega)] at h3
      simp only [List.cons_append, List.nil_append, List.cons.injEq] at h3
      exact ⟨dcl_int ha.i.1 hb.i.1 h3.1, h3.2⟩
    · rw [if_neg hk, if_neg (show ¬ b.k ≤ 2 by omega)] at h3
      refine ⟨?_, h3⟩
      have := ha.i3
      have := hb.i3
      omega
  obtain ⟨ei, h3⟩ := hi
  have hc : a.c = b.c ∧ tl_ a = tl_ b := by
    by_cases hk : a.k ≤ 3
    · rw [if_pos hk, if_pos (show b.k ≤ 3 by omega)] at h3
      simp only [List.cons_append, List.nil_append, List.cons.injEq] at h3
      exact ⟨dcl_int ha.c.1 hb.c.1 h3.1, h3.2⟩
    · rw [if_neg hk, if_neg (show ¬ b.k ≤ 3 by omega)] at h3
      refine ⟨?_, h3⟩
      have := ha.c4
      have := hb.c4
      omega
  obtain ⟨ec, h3⟩ := hc
  by_cases hcd : a.cd = 0
  · have hcb : b.cd = 0 := by
      by_cases hb0 : b.cd = 0
      · exact hb0
      · exfalso
        have h4 : (tl_ b).length = 2 := by unfold tl_; rw [if_pos hb0]; rfl
        exact tl_two hcd (by rw [h3]; exact h4)
    unfold tl_ at h3
    rw [if_neg (show ¬ a.cd ≠ 0 by omega), if_neg (show ¬ b.cd ≠ 0 by omega)] at h3
    have hask : a.ask = b.ask := by
      rcases e1 : a.ask with _ | _ <;> rcases e2 : b.ask with _ | _
      · rfl
      · exfalso
        have hk := (hb.ask e2).1
        rw [e1, e2, if_neg (show ¬ (false = true) by decide), if_pos (show true = true from rfl), if_neg (show ¬ a.k = 3 by omega), if_neg (show ¬ a.k = 4 by omega)] at h3
        revert h3; decide
      · exfalso
        have hk := (ha.ask e1).1
        rw [e1, e2, if_pos (show true = true from rfl), if_neg (show ¬ (false = true) by decide), if_neg (show ¬ b.k = 3 by omega), if_neg (show ¬ b.k = 4 by omega)] at h3
        revert h3; decide
      · rfl
    rcases e1 : a.ask with _ | _
    · have e2 : b.ask = false := by rw [← hask]; exact e1
      rw [e1, e2, if_neg (show ¬ (false = true) by decide), if_neg (show ¬ (false = true) by decide)] at h3
      by_cases hk3 : a.k = 3
      · have hLa : a.L = [] := by rcases ha.look with h | h; exact h; exfalso; omega
        have hLb : b.L = [] := by rcases hb.look with h | h; exact h; exfalso; omega
        rw [if_pos hk3, if_pos (show b.k = 3 by omega)] at h3
        by_cases hz : a.r0 = 0
        · by_cases hy : b.r0 = 0
          · have ra := ha.recs
            have rb := hb.recs
            exact rp_eq ek (by omega) et ei ec hask (by omega) (by omega) (by omega) (by omega) (by omega) (by omega) (by rw [hLa, hLb])
          · rw [if_neg (show ¬ a.r0 ≠ 0 by omega), if_pos hy] at h3
            have := congrArg List.length h3
            simp at this
        · by_cases hy : b.r0 = 0
          · rw [if_pos hz, if_neg (show ¬ b.r0 ≠ 0 by omega)] at h3
            have := congrArg List.length h3
            simp at this
          · rw [if_pos hz, if_pos hy] at h3
            simp only [List.cons.injEq] at h3
            obtain ⟨p0, p1, p2, p3, _⟩ := h3
            have ra := ha.recs
            have rb := hb.recs
            have e0 := rn_inj (a := a.r0) (b := b.r0) (by omega) (by omega) p0
            have e1' := dcl_int (a := a.r1) (b := b.r1) (by omega) (by omega) p1
            have e2' := dcl_int (a := a.r2) (b := b.r2) (by omega) (by omega) p2
            have e3' := dcl_int (a := a.r3) (b := b.r3) (by omega) (by omega) p3
            exact rp_eq ek (by omega) et ei ec hask e0 e1' e2' e3' (by omega) (by omega) (by rw [hLa, hLb])
      · have ra := ha.recs
        have rb := hb.recs
        rw [if_neg hk3, if_neg (show ¬ b.k = 3 by omega)] at h3
        by_cases hk4 : a.k = 4
        · rw [if_pos hk4, if_pos (show b.k = 4 by omega)] at h3
          have hl : a.L = b.L := lw_inj (by rcases ha.look with h | h; rw [h]; intro x hx; cases hx; exact h.2.2) (by rcases hb.look with h | h; rw [h]; intro x hx; cases hx; exact h.2.2) h3
          exact rp_eq ek (by omega) et ei ec hask (by omega) (by omega) (by omega) (by omega) (by omega) (by omega) hl
        · have hLa : a.L = [] := by rcases ha.look with h | h; exact h; exfalso; omega
          have hLb : b.L = [] := by rcases hb.look with h | h; exact h; exfalso; omega
          exact rp_eq ek (by omega) et ei ec hask (by omega) (by omega) (by omega) (by omega) (by omega) (by omega) (by rw [hLa, hLb])
    · have hka := ha.ask e1
      have ra := ha.recs
      have rb := hb.recs
      have hLa : a.L = [] := by rcases ha.look with h | h; exact h; exfalso; omega
      have hLb : b.L = [] := by rcases hb.look with h | h; exact h; exfalso; omega
      exact rp_eq ek (by omega) et ei ec hask (by omega) (by omega) (by omega) (by omega) (by omega) (by omega) (by rw [hLa, hLb])
  · have hcb : b.cd ≠ 0 := by
      intro hb0
      have h4 : (tl_ a).length = 2 := by unfold tl_; rw [if_pos hcd]; rfl
      exact tl_two hb0 (by rw [← h3]; exact h4)
    unfold tl_ at h3
    rw [if_pos hcd, if_pos hcb] at h3
    simp only [List.cons.injEq, true_and, and_true] at h3
    have ecd := dcl_int ha.cd hb.cd h3
    have ra := ha.recs
    have rb := hb.recs
    have hLa : a.L = [] := by rcases ha.look with h | h; exact h; exfalso; omega
    have hLb : b.L = [] := by rcases hb.look with h | h; exact h; exfalso; omega
    have hask : a.ask = b.ask := by
      rcases e1 : a.ask with _ | _ <;> rcases e2 : b.ask with _ | _
      · rfl
      · exact absurd (hb.ask e2).2 hcb
      · exact absurd (ha.ask e1).2 hcd
      · rfl
    exact rp_eq ek ecd et ei ec hask (by omega) (by omega) (by omega) (by omega) (by omega) (by omega) (by rw [hLa, hLb])

end Go.Proofs.YtinciphhoieonaaGreatDoor

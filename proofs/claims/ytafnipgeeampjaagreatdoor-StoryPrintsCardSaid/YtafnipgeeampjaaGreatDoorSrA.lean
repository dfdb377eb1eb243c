/-
  The words of a line and digits, for the stories: no program.
-/
import Derived.Test.YtafnipgeeampjaaGreatDoorRows
import Derived.Test.YtafnipgeeampjaaGreatDoorKit
import Derived.Test.YtafnipgeeampjaaGreatDoorApp
import Derived.Test.YtafnipgeeampjaaGreatDoorQuiet
import Derived.WalkKit
import Derived.ProofKit
import Derived.OpenShut
import Derived.ShutString
import Derived.Below
import Derived.Outline
import Derived.WalkLawsBesides
import Derived.WalkSpells
import Derived.Handy
import Derived.Deep.QuietTactic
import Derived.BigQuiet
import Derived.RegionTactic
import Derived.ChangeAlike
import Derived.Lib.Hide
import Derived.Laws.Rows
import Derived.Laws.Tables
import Derived.Laws.CopyOwn
import Derived.Laws.MakeOwn
import Derived.Laws.Entries
import Derived.Laws.OwnMore
import Derived.Deep.WholeRow
import Derived.Deep.LoopGhost
import Derived.Deep.AppendLies
import Derived.Deep.Draws
import Derived.Maps.AppendAt
import Derived.OwnWalk
import Derived.Deep.RegionHeld3
import Derived.Deep.Cut
import Derived.Deep.CutRange
import Derived.Deep.DeepCutAuto
import Derived.Deep.CutBlock
import Derived.Lib.SliceRun
import Derived.IntWalk
import Derived.Laws.Strings
import Derived.Lib.Bytealg
import Derived.Lib.Strings
import Derived.Laws.Externs
import Derived.Test.YtafnipgeeampjaaGreatDoorLnB
import Derived.Test.YtafnipgeeampjaaGreatDoorLnD
import Derived.Test.YtafnipgeeampjaaGreatDoorLnG
import Derived.Lib.SplitLaws
import Derived.Shelf.Strings.Split
import Derived.Lib.Join
namespace Go.Proofs.YtafnipgeeampjaaGreatDoor
open Go.ChangeShapes Go.WideShapes Go.ChangeAt Go.RowKit
/-- Where no blank is, and where the first is. -/
theorem ib_none : ∀ {l : List UInt8}, ib l = -1 → ∀ x ∈ l, x ≠ 32
  | [], _, x, h => by simp at h
  | a :: t, h, x, hx => by
    unfold ib Lib.indexByte at h
    by_cases ha : a == 32
    · rw [if_pos ha] at h; omega
    · rw [if_neg ha] at h
      by_cases ht : Lib.indexByte t 32 == -1
      · rcases List.mem_cons.1 hx with rfl | hx
        · intro e; exact ha (by rw [e]; rfl)
        · exact ib_none (l := t) (beq_iff_eq.1 ht) x hx
      · rw [if_neg ht] at h
        rcases ibyte_cases t 32 with e | ⟨i, e, _⟩
        · exact absurd (by rw [e]; rfl) ht
        · omega
theorem ib_some : ∀ {l : List UInt8} {i : Nat}, ib l = (i : Int) → l = l.take i ++ 32 :: l.drop (i + 1) ∧ ∀ x ∈ l.take i, x ≠ 32
  | [], i, h => by unfold ib Lib.indexByte at h; omega
  | a :: t, i, h => by
    unfold ib Lib.indexByte at h
    by_cases ha : a == 32
    · rw [if_pos ha] at h
      have : i = 0 := by omega
      subst this
      have := beq_iff_eq.1 ha
      subst this
      exact ⟨by simp, by simp⟩
    · rw [if_neg ha] at h
      by_cases ht : Lib.indexByte t 32 == -1
      · rw [if_pos ht] at h; omega
      · rw [if_neg ht] at h
        rcases ibyte_cases t 32 with e | ⟨j, e, _⟩
        · exact absurd (by rw [e]; rfl) ht
        · obtain ⟨h1, h2⟩ := ib_some (l := t) (i := j) e
          have : i = j + 1 := by omega
          subst this
          refine ⟨?_, fun x hx => ?_⟩
          · simp only [List.take_succ_cons, List.drop_succ_cons, List.cons_append]
            rw [← h1]
          · simp only [List.take_succ_cons, List.mem_cons] at hx
            rcases hx with rfl | hx
            · intro e2; exact ha (by rw [e2]; rfl)
            · exact h2 x hx
/-- What is left of a line, with its blank. -/
def tx (m : Bool) (r : List UInt8) : List UInt8 := if m = true then 32 :: r else []
theorem cutb_join (l : List UInt8) : l = (cutb l).1 ++ tx (cutb l).2.2 (cutb l).2.1 ∧ (∀ x ∈ (cutb l).1, x ≠ 32) ∧ ((cutb l).2.2 = false → (cutb l).2.1 = []) := by
  rcases ibyte_cases l 32 with h | ⟨i, h, _⟩
  · have hx : ib l = -1 := h
    rw [cutb_miss hx]
    exact ⟨by simp [tx], ib_none hx, fun _ => rfl⟩
  · have hx : ib l = (i : Int) := h
    obtain ⟨h1, h2⟩ := ib_some hx
    rw [cutb_hit hx]
    exact ⟨by simpa [tx] using h1, h2, fun e => by simp at e⟩
theorem dec_ge : ∀ (l : List UInt8) (acc n : Nat), Lib.decFrom acc l = some n → acc * 10 ^ l.length ≤ n
  | [], acc, n, h => by simp only [Lib.decFrom, Option.some.injEq] at h; subst h; simp
  | a :: t, acc, n, h => by
    simp only [Lib.decFrom] at h
    rcases e : Lib.digitVal a with _ | d
    · rw [e] at h; cases h
    · rw [e] at h
      have h1 := dec_ge t _ n h
      rw [List.length_cons, Nat.pow_succ]
      have h2 : acc * (10 ^ t.length * 10) = acc * 10 * 10 ^ t.length := by rw [Nat.mul_comm (10 ^ t.length) 10, Nat.mul_assoc]
      rw [h2]
      exact Nat.le_trans (Nat.mul_le_mul_right _ (by omega)) h1
theorem dval_inj {a b : UInt8} {d : Nat} (ha : Lib.digitVal a = some d) (hb : Lib.digitVal b = some d) : a = b := by
  obtain ⟨h1, h2, h3⟩ := Lib.digitVal_eq ha
  obtain ⟨g1, g2, g3⟩ := Lib.digitVal_eq hb
  exact UInt8.toNat_inj.1 (by omega)
theorem dec_inj : ∀ (l l' : List UInt8) (acc m : Nat), l.length = l'.length → Lib.decFrom acc l = some m → Lib.decFrom acc l' = some m → l = l'
  | [], [], _, _, _, _, _ => rfl
  | [], _ :: _, _, _, h, _, _ => by simp at h
  | _ :: _, [], _, _, h, _, _ => by simp at h
  | a :: t, b :: u, acc, m, hl, h1, h2 => by
    simp only [List.length_cons, Nat.add_right_cancel_iff] at hl
    simp only [Lib.decFrom] at h1 h2
    rcases e1 : Lib.digitVal a with _ | d
    · rw [e1] at h1; cases h1
    · rcases e2 : Lib.digitVal b with _ | d'
      · rw [e2] at h2; cases h2
      · rw [e1] at h1
        rw [e2] at h2
        simp only at h1 h2
        have a1 := dec_ge t _ m h1
        have a2 := Lib.decFrom_lt t _ m h1
        have b1 := dec_ge u _ m h2
        have b2 := Lib.decFrom_lt u _ m h2
        rw [← hl] at b1 b2
        have c1 := Nat.lt_of_mul_lt_mul_right (Nat.lt_of_le_of_lt a1 b2)
        have c2 := Nat.lt_of_mul_lt_mul_right (Nat.lt_of_le_of_lt b1 a2)
        have hd : d = d' := by omega
        subst hd
        rw [dval_inj e1 e2, dec_inj t u _ m hl h1 h2]
theorem digs_long {l l' : List UInt8} (h : digs l = true) (h' : digs l' = true) (e : nv l = nv l') : ¬ l.length < l'.length := by
  intro hlt
  obtain ⟨a1, a2, a3, _⟩ := digs_dec h
  obtain ⟨b1, b2, b3, _⟩ := digs_dec h'
  rcases l' with _ | ⟨b, t⟩
  · simp at hlt
  · have hb := digs_first h' b t rfl
    have hnz : b ≠ 48 := by
      intro hb0
      subst hb0
      unfold digs at h'
      simp only [Bool.and_eq_true] at h'
      have := h'.2.2.1
      simp at this
      simp only [List.length_cons] at hlt
      rw [this] at hlt
      simp at hlt
      rw [hlt] at a1
      simp at a1
    have hb1 : 49 ≤ b.toNat := by
      rcases Nat.lt_or_ge b.toNat 49 with h1 | h1
      · exact absurd (UInt8.toNat_inj.1 (show b.toNat = (48 : UInt8).toNat by show b.toNat = 48; omega)) hnz
      · exact h1
    have hdv : Lib.digitVal b = some (b.toNat - 48) := by unfold Lib.digitVal; rw [if_pos hb]
    unfold Lib.decFrom at b3
    rw [hdv] at b3
    simp only at b3
    have c1 := dec_ge t _ _ b3
    have c2 := Lib.decFrom_lt l 0 _ a3
    simp only [List.length_cons] at hlt
    have c3 := Nat.pow_le_pow_right (n := 10) (by decide) (show l.length ≤ t.length by omega)
    have c4 : 1 * 10 ^ t.length ≤ (0 * 10 + (b.toNat - 48)) * 10 ^ t.length := Nat.mul_le_mul_right _ (by omega)
    rw [← e] at c1
    omega
theorem digs_inj {l l' : List UInt8} (h : digs l = true) (h' : digs l' = true) (e : nv l = nv l') : l = l' := by
  have h1 := digs_long h h' e
  have h2 := digs_long h' h e.symm
  have a3 := (digs_dec h).2.2.1
  have b3 := (digs_dec h').2.2.1
  rw [← e] at b3
  exact dec_inj l l' 0 _ (by omega) a3 b3
theorem dec_snoc : ∀ (l : List UInt8) (acc : Nat) (b : UInt8), Lib.decFrom acc (l ++ [b]) = (Lib.decFrom acc l).bind fun m => (Lib.digitVal b).map fun d => m * 10 + d
  | [], acc, b => by
    simp only [List.nil_append, Lib.decFrom, Option.bind_some]
    rcases Lib.digitVal b with _ | d <;> rfl
  | a :: t, acc, b => by
    simp only [List.cons_append, Lib.decFrom]
    rcases Lib.digitVal a with _ | d
    · rfl
    · exact dec_snoc t _ b
theorem nv_snoc (l : List UInt8) (b : UInt8) (hl : l.all dig = true) (hb : dig b = true) : nv (l ++ [b]) = nv l * 10 + (b.toNat - 48) := by
  obtain ⟨m, hm⟩ := dec_of l 0 hl
  unfold nv
  rw [dec_snoc, hm, dig_val hb]
  rfl
theorem nv_lt (l : List UInt8) (hl : l.all dig = true) : nv l < 10 ^ l.length := by
  obtain ⟨m, hm⟩ := dec_of l 0 hl
  have := Lib.decFrom_lt l 0 _ hm
  unfold nv
  rw [hm]
  simpa using this
theorem dg_dig {n : Nat} (h : n < 10) : dig (dg n) = true := by
  unfold dig
  rw [ofNat_dig h, decide_eq_true (show 48 ≤ 48 + n by omega), decide_eq_true (show 48 + n ≤ 57 by omega)]; rfl
theorem dcl_all (n : Nat) : (dcl n).all dig = true := by
  induction n using Nat.strongRecOn with
  | ind n ih =>
    by_cases h : n < 10
    · rw [dcl_small h]; simp [dg_dig h]
    · rw [dcl_big h, List.all_append, ih _ (by omega)]
      simp [dg_dig (show n % 10 < 10 by omega)]
theorem nv_dcl (n : Nat) : nv (dcl n) = n := by
  induction n using Nat.strongRecOn with
  | ind n ih =>
    by_cases h : n < 10
    · rw [dcl_small h]
      have := nv_snoc [] (dg n) rfl (dg_dig h)
      simp only [List.nil_append] at this
      rw [this, ofNat_dig h]
      have e : nv [] = 0 := rfl
      omega
    · rw [dcl_big h, nv_snoc _ _ (dcl_all _) (dg_dig (by omega)), ih _ (by omega), ofNat_dig (by omega)]
      omega
theorem dcl_pos (n : Nat) : 0 < (dcl n).length := by
  by_cases h : n < 10
  · rw [dcl_small h]; simp
  · rw [dcl_big h]; simp
theorem dcl_first (n : Nat) (h : 0 < n) : (dcl n).getD 0 0 ≠ 48 := by
  induction n using Nat.strongRecOn with
  | ind n ih =>
    by_cases h1 : n < 10
    · rw [dcl_small h1]
      intro e
      have e2 : (dg n).toNat = 48 := by
        have : dg n = 48 := by simpa using e
        rw [this]; rfl
      rw [ofNat_dig h1] at e2
      omega
    · rw [dcl_big h1]
      have := ih (n / 10) (by omega) (by omega)
      have hp := dcl_pos (n / 10)
      intro e
      apply this
      rw [← e]
      simp [List.getD, List.getElem?_append, hp]
theorem dcl_digs {n : Nat} (h : n < 10000000) : digs (dcl n) = true := by
  have h1 := dcl_len 6 n (by omega)
  have h2 := dcl_pos n
  unfold digs
  rw [decide_eq_true h2, decide_eq_true (show (dcl n).length ≤ 7 by omega), dcl_all n]
  have h3 : ((dcl n).getD 0 0 == 48 && decide (1 < (dcl n).length)) = false := by
    rcases Nat.eq_zero_or_pos n with h0 | h0
    · subst h0
      rw [dcl_small (by omega)]
      rfl
    · have := dcl_first n h0
      rw [beq_eq_false_iff_ne.2 this]; rfl
  rw [h3]; rfl
theorem dcl_nv {l : List UInt8} (h : digs l = true) : dcl (nv l) = l :=
  digs_inj (dcl_digs (digs_dec h).2.2.2) h (nv_dcl _)
/-- A word of digits is a number just if it is that number's. -/
theorem digs_iff (l : List UInt8) (h1 : 0 < l.length) (h7 : l.length ≤ 7) (ha : l.all dig = true) : digs l = (dcl (nv l) == l) := by
  rcases e : digs l with _ | _
  · symm
    rw [beq_eq_false_iff_ne]
    intro e2
    have h8 : nv l < 10000000 := Nat.lt_of_lt_of_le (nv_lt l ha) (Nat.le_trans (Nat.pow_le_pow_right (by decide) h7) (by decide))
    have := dcl_digs h8
    rw [e2, e] at this
    cases this
  · symm
    rw [beq_iff_eq]
    exact dcl_nv e
theorem nv_step (l : List UInt8) (k : Nat) (hk : k < l.length) (ha : (l.take k).all dig = true) (hd : dig (l.getD k 0) = true) : nv (l.take (k + 1)) = nv (l.take k) * 10 + ((l.getD k 0).toNat - 48) := by
  rw [List.take_add_one, List.getElem?_eq_getElem hk]
  have : l.getD k 0 = l[k] := by simp [List.getD, hk]
  rw [this] at hd ⊢
  exact nv_snoc _ _ ha hd
/-- A word of a line, and where it begins. -/
abbrev Wo := List UInt8 × Nat
def wds : Nat → List UInt8 → Nat → List Wo
  | 0, _, _ => []
  | n + 1, l, f => ((cutb l).1, f) :: (if (cutb l).2.2 = true then wds n (cutb l).2.1 (f + (cutb l).1.length + 1) else [])
theorem cutb_less (l : List UInt8) (h : (cutb l).2.2 = true) : (cutb l).2.1.length < l.length := by
  have := (cutb_join l).1
  have e := congrArg List.length this
  rw [h] at e
  simp [tx] at e
  omega
theorem wds_more : ∀ (n m : Nat) (l : List UInt8) (f : Nat), l.length < n → l.length < m → wds n l f = wds m l f
  | 0, _, _, _, h, _ => by omega
  | _, 0, _, _, _, h => by omega
  | n + 1, m + 1, l, f, h1, h2 => by
    simp only [wds]
    split
    · rename_i hc
      have := cutb_less l hc
      rw [wds_more n m _ _ (by omega) (by omega)]
    · rfl
/-- The words of a line, the first of which begins at f. -/
def wl (l : List UInt8) (f : Nat) : List Wo := wds (l.length + 1) l f
theorem wl_eq (l : List UInt8) (f : Nat) : wl l f = ((cutb l).1, f) :: (if (cutb l).2.2 = true then wl (cutb l).2.1 (f + (cutb l).1.length + 1) else []) := by
  have e : wl l f = ((cutb l).1, f) :: (if (cutb l).2.2 = true then wds l.length (cutb l).2.1 (f + (cutb l).1.length + 1) else []) := rfl
  rw [e]
  split
  · rename_i hc
    have := cutb_less l hc
    unfold wl
    rw [wds_more l.length ((cutb l).2.1.length + 1) _ _ (by omega) (by omega)]
  · rfl
theorem ib_at : ∀ (l : List UInt8) (i : Nat), i < l.length → l.getD i 0 = 32 → (∀ j, j < i → l.getD j 0 ≠ 32) → ib l = (i : Int)
  | [], i, h, _, _ => by simp at h
  | a :: t, i, h, hi, hj => by
    unfold ib Lib.indexByte
    cases i with
    | zero =>
      have : a = 32 := by simpa using hi
      rw [if_pos (by rw [this]; rfl)]; rfl
    | succ i =>
      have ha : a ≠ 32 := by simpa using hj 0 (by omega)
      rw [if_neg (by simpa using ha)]
      have ih := ib_at t i (by simpa using h) (by simpa using hi) (fun j hj2 => by simpa using hj (j + 1) (by omega))
      unfold ib at ih
      rw [ih, if_neg (by rw [beq_iff_eq]; omega)]
      omega
theorem ib_no : ∀ (l : List UInt8), (∀ j, j < l.length → l.getD j 0 ≠ 32) → ib l = -1
  | [], _ => rfl
  | a :: t, hj => by
    unfold ib Lib.indexByte
    have ha : a ≠ 32 := by simpa using hj 0 (by simp)
    rw [if_neg (by simpa using ha)]
    have ih := ib_no t (fun j hj2 => by simpa using hj (j + 1) (by simp; omega))
    unfold ib at ih
    rw [ih]; rfl
/-- What is left to be told at a place: nothing behind the end. -/
def lft (l : List UInt8) (f i : Nat) : List Wo := if i ≤ l.length then wl (l.drop f) f else []
/-- No blank from f up to i. -/
def nob (l : List UInt8) (f i : Nat) : Prop := ∀ j, f ≤ j → j < i → l.getD j 0 ≠ 32
theorem getD_drop (l : List UInt8) (f j : Nat) : (l.drop f).getD j 0 = l.getD (f + j) 0 := by simp [List.getD, List.getElem?_drop]
theorem lft_end (l : List UInt8) (f : Nat) (hf : f ≤ l.length) (h : nob l f l.length) : lft l f l.length = (l.drop f, f) :: lft l (l.length + 1) (l.length + 1) := by
  unfold lft
  rw [if_pos (Nat.le_refl _), if_neg (by omega), wl_eq, cutb_miss (ib_no _ fun j hj => by
    rw [getD_drop]
    rw [List.length_drop] at hj
    exact h _ (by omega) (by omega))]
  rfl
theorem lft_hit (l : List UInt8) (f i : Nat) (hf : f ≤ i) (hi : i < l.length) (h : nob l f i) (hb : l.getD i 0 = 32) : lft l f i = ((l.drop f).take (i - f), f) :: lft l (i + 1) (i + 1) := by
  have hx := ib_at (l.drop f) (i - f) (by rw [List.length_drop]; omega) (by rw [getD_drop, show f + (i - f) = i by omega]; exact hb) (fun j hj => by
    rw [getD_drop]
    exact h _ (by omega) (by omega))
  unfold lft
  rw [if_pos (by omega), if_pos (by omega), wl_eq, cutb_hit hx]
  simp only [if_true, List.length_take, List.length_drop, List.drop_drop]
  rw [show f + (i - f + 1) = i + 1 by omega, show f + min (i - f) (l.length - f) + 1 = i + 1 by omega]
theorem lft_on (l : List UInt8) (f i : Nat) (hi : i < l.length) : lft l f i = lft l f (i + 1) := by
  unfold lft
  rw [if_pos (by omega), if_pos (by omega)]
theorem nob_on (l : List UInt8) (f i : Nat) (h : nob l f i) (hb : l.getD i 0 ≠ 32) : nob l f (i + 1) := fun j h1 h2 => by
  rcases Nat.lt_or_ge j i with h3 | h3
  · exact h j h1 h3
  · rw [show j = i by omega]; exact hb
theorem nob_new (l : List UInt8) (i : Nat) : nob l i i := fun j h1 h2 => by omega
theorem wl_pos (l : List UInt8) (f : Nat) : 0 < (wl l f).length := by rw [wl_eq]; simp
/-- Words as cells. -/
def wv (l : List Wo) : List Value := l.flatMap fun x => [.string (Bs x.1), .int .i64 (x.2 : Int)]
theorem wv_app (a b : List Wo) : wv (a ++ b) = wv a ++ wv b := by simp [wv]
theorem wv_len (l : List Wo) : (wv l).length = l.length * 2 := by
  induction l with
  | nil => rfl
  | cons x t ih => simp [wv] at ih ⊢; omega
theorem wv_get : ∀ (l : List Wo) (k : Nat) (x : Wo), l[k]? = some x → (wv l)[k * 2]? = some (.string (Bs x.1)) ∧ (wv l)[k * 2 + 1]? = some (.int .i64 (x.2 : Int))
  | [], k, x, h => by simp at h
  | y :: t, 0, x, h => by
    simp at h
    subst h
    exact ⟨rfl, rfl⟩
  | y :: t, k + 1, x, h => by
    have ih := wv_get t k x (by simpa using h)
    have e : wv (y :: t) = .string (Bs y.1) :: .int .i64 (y.2 : Int) :: wv t := rfl
    rw [e, show (k + 1) * 2 = k * 2 + 1 + 1 by omega, show k * 2 + 1 + 1 + 1 = (k * 2 + 1) + 1 + 1 by omega]
    exact ih
theorem tw_app : ∀ (V W : List UInt8), (∀ x ∈ V, x ≠ 32) → (W = [] ∨ ∃ W', W = 32 :: W') → (V ++ W).takeWhile (fun x => !(x == 32)) = V
  | [], W, _, h => by
    rcases h with rfl | ⟨W', rfl⟩
    · rfl
    · simp
  | a :: V, W, hV, h => by
    have ha : (a == 32) = false := beq_eq_false_iff_ne.2 (hV a (List.mem_cons_self ..))
    rw [List.cons_append, List.takeWhile_cons, ha]
    simp only [Bool.not_false, if_true]
    rw [tw_app V W (fun x hx => hV x (List.mem_cons_of_mem _ hx)) h]
theorem tw_head : ∀ (V W : List UInt8), (∀ x ∈ V, x ≠ 32) → (W = [] ∨ ∃ W', W = 32 :: W') → (V ++ W).dropWhile (fun x => !(x == 32)) = W
  | [], W, _, hW => by
    rcases hW with rfl | ⟨W', rfl⟩
    · rfl
    · rfl
  | a :: V, W, hV, hW => by
    have ha : (a == 32) = false := beq_eq_false_iff_ne.2 (hV a (List.mem_cons_self ..))
    rw [List.cons_append, List.dropWhile_cons, ha]
    exact tw_head V W (fun x hx => hV x (List.mem_cons_of_mem _ hx)) hW
/-- Words, each with the blank ahead of it. -/
def jt (L : List (List UInt8)) : List UInt8 := L.flatMap fun x => 32 :: x
theorem jt_head (L : List (List UInt8)) : jt L = [] ∨ ∃ W', jt L = 32 :: W' := by
  cases L with
  | nil => exact .inl rfl
  | cons x t => exact .inr ⟨_, rfl⟩
def nbl (L : List (List UInt8)) : Prop := ∀ x ∈ L, ∀ b ∈ x, b ≠ 32
theorem jt_inj : ∀ {L M : List (List UInt8)}, nbl L → nbl M → jt L = jt M → L = M
  | [], [], _, _, _ => rfl
  | [], y :: M, _, _, h => by cases h
  | x :: L, [], _, _, h => by cases h
  | x :: L, y :: M, hL, hM, h => by
    have h' : x ++ jt L = y ++ jt M := by
      have : (32 : UInt8) :: (x ++ jt L) = 32 :: (y ++ jt M) := h
      exact (List.cons.inj this).2
    have hx := hL x (List.mem_cons_self ..)
    have hy := hM y (List.mem_cons_self ..)
    have e1 : x = y := by
      rw [← tw_app x (jt L) hx (jt_head L), ← tw_app y (jt M) hy (jt_head M), h']
    have e2 : jt L = jt M := by
      rw [← tw_head x (jt L) hx (jt_head L), ← tw_head y (jt M) hy (jt_head M), h']
    rw [e1, jt_inj (fun z hz => hL z (List.mem_cons_of_mem _ hz)) (fun z hz => hM z (List.mem_cons_of_mem _ hz)) e2]
/-- Words as a line. -/
def jl (L : List (List UInt8)) : List UInt8 := Lib.join L [32]
theorem jl_cons (x : List UInt8) (L : List (List UInt8)) : jl (x :: L) = x ++ jt L := by
  unfold jl
  rw [Lib.join_cons]
  rfl
theorem jl_inj {x y : List UInt8} {L M : List (List UInt8)} (hL : nbl (x :: L)) (hM : nbl (y :: M)) (h : jl (x :: L) = jl (y :: M)) : x :: L = y :: M := by
  rw [jl_cons, jl_cons] at h
  apply jt_inj hL hM
  show 32 :: (x ++ jt L) = 32 :: (y ++ jt M)
  rw [h]
theorem dcl_nb (n : Nat) : ∀ x ∈ dcl n, x ≠ 32 := by
  induction n using Nat.strongRecOn with
  | ind n ih =>
    have hd : ∀ {m : Nat}, m < 10 → dg m ≠ 32 := fun {m} hm h2 => by
      have e := ofNat_dig hm
      rw [h2] at e
      have : (32 : UInt8).toNat = 32 := rfl
      omega
    by_cases h : n < 10
    · rw [dcl_small h]
      intro x hx
      rw [List.mem_singleton.1 hx]
      exact hd h
    · rw [dcl_big h]
      intro x hx
      rcases List.mem_append.1 hx with hx | hx
      · exact ih _ (by omega) x hx
      · rw [List.mem_singleton.1 hx]
        exact hd (by omega)
theorem nbl_app {L M : List (List UInt8)} (h : nbl L) (g : nbl M) : nbl (L ++ M) := fun x hx => by
  rcases List.mem_append.1 hx with hx | hx
  · exact h x hx
  · exact g x hx
theorem nbl_cons {x : List UInt8} {L : List (List UInt8)} (h : ∀ b ∈ x, b ≠ 32) (g : nbl L) : nbl (x :: L) := fun y hy => by
  rcases List.mem_cons.1 hy with rfl | hy
  · exact h
  · exact g y hy
theorem nbl_nil : nbl [] := fun x hx => by cases hx
theorem index_word : ∀ (x W : List UInt8), (∀ b ∈ x, b ≠ 32) → Lib.index (x ++ 32 :: W) [32] = (x.length : Int)
  | [], W, _ => by
    show Lib.index (32 :: W) [32] = 0
    rw [Lib.index]
    simp [List.isPrefixOf]
  | a :: x, W, h => by
    have ha : a ≠ 32 := h a (List.mem_cons_self ..)
    have ih := index_word x W (fun b hb => h b (List.mem_cons_of_mem _ hb))
    rw [List.cons_append, Lib.index]
    have hp : ([32] : List UInt8).isPrefixOf (a :: (x ++ 32 :: W)) = false := by simp [List.isPrefixOf, Ne.symm ha]
    have hm : (Lib.index (x ++ 32 :: W) [32] == -1) = false := beq_eq_false_iff_ne.2 (by omega)
    rw [hp, hm, ih]
    simp
theorem jt_cons (x : List UInt8) (L : List (List UInt8)) : jt (x :: L) = 32 :: (x ++ jt L) := rfl
theorem splitK_jl : ∀ (L : List (List UInt8)) (x : List UInt8), nbl (x :: L) → Lib.splitK [32] 0 L.length (x ++ jt L) = x :: L
  | [], x, _ => by
    show [x ++ jt []] = [x]
    rw [show jt [] = [] from rfl, List.append_nil]
  | y :: L, x, h => by
    have hx := index_word x (y ++ jt L) (h x (List.mem_cons_self ..))
    rw [jt_cons, List.length_cons, Lib.splitK]
    have hm : (Lib.index (x ++ 32 :: (y ++ jt L)) [32] == -1) = false := beq_eq_false_iff_ne.2 (by omega)
    rw [hm, hx]
    have e1 : (x ++ 32 :: (y ++ jt L)).take (((x.length : Nat) : Int).toNat + 0) = x := by
      rw [Int.toNat_natCast, Nat.add_zero, List.take_left']
      rfl
    have e2 : (x ++ 32 :: (y ++ jt L)).drop (((x.length : Nat) : Int).toNat + [(32 : UInt8)].length) = y ++ jt L := by
      rw [Int.toNat_natCast, show [(32 : UInt8)].length = 1 from rfl, ← List.drop_drop, List.drop_left']
      · rfl
      · rfl
    rw [e1, e2, splitK_jl L y (fun z hz => h z (List.mem_cons_of_mem _ hz))]
    simp
theorem count_nb (x : List UInt8) (h : ∀ b ∈ x, b ≠ 32) : x.count 32 = 0 := List.count_eq_zero.2 fun hm => h 32 hm rfl
theorem count_jt : ∀ (L : List (List UInt8)), nbl L → (jt L).count 32 = L.length
  | [], _ => rfl
  | x :: L, h => by
    rw [jt_cons, List.count_cons, List.count_append, count_nb x (h x (List.mem_cons_self ..)), count_jt L (fun z hz => h z (List.mem_cons_of_mem _ hz))]
    simp
theorem splitB_jl (x : List UInt8) (L : List (List UInt8)) (h : nbl (x :: L)) : Lib.countB (Bs (jl (x :: L))) ⟨#[32]⟩ = L.length ∧ Lib.splitB ⟨#[32]⟩ 0 L.length (Bs (jl (x :: L))) = (x :: L).map Bs := by
  refine ⟨?_, ?_⟩
  · show Lib.count (jl (x :: L)) [32] = _
    rw [Lib.count_one, jl_cons, List.count_append, count_nb x (h x (List.mem_cons_self ..)), count_jt L (fun z hz => h z (List.mem_cons_of_mem _ hz)), Nat.zero_add]
  · have e := Lib.splitB_data ⟨#[32]⟩ 0 L.length (Bs (jl (x :: L)))
    rw [show (Bs (jl (x :: L))).data.toList = jl (x :: L) from rfl, show (⟨#[32]⟩ : ByteArray).data.toList = [32] from rfl, jl_cons, splitK_jl L x h] at e
    have e2 : ∀ l : List ByteArray, l = (l.map (·.data.toList)).map Bs := fun l => by
      rw [List.map_map]
      have : Bs ∘ (·.data.toList) = id := funext fun b => rfl
      rw [this, List.map_id]
    rw [e2 (Lib.splitB ⟨#[32]⟩ 0 L.length (Bs (jl (x :: L)))), jl_cons, e]

end Go.Proofs.YtafnipgeeampjaaGreatDoor

/-
  What rounds come to: gaps and counts, by numbers alone.
-/
import Derived.Test.YtdlgpbmeeiakdaaEv
namespace Go.Proofs.Ytdlgpbmeeiakdaa
theorem fold_take {β : Type} (f : β → Ev → β) (b : β) (l : List Ev) (i : Nat) (e : Ev) (h : l[i]? = some e) : (l.take (i + 1)).foldl f b = f ((l.take i).foldl f b) e := by
  rw [List.take_add_one, h, List.foldl_append]
  rfl
/-- Is it a step of that agent? -/
def isP (a : Int) (e : Ev) : Bool := decide (e.1 = 3) && decide (e.2.1 = a)
def gstep (a : Int) (s : Nat × Nat) (e : Ev) : Nat × Nat := (max s.1 (if isP a e then 0 else s.2 + 1), if isP a e then 0 else s.2 + 1)
/-- The longest row without a step of an agent, and the last one. -/
def gapS (a : Int) (l : List Ev) : Nat × Nat := l.foldl (gstep a) (0, 0)
def cstep (a : Int) (s : Nat) (e : Ev) : Nat := s + (if isP a e then 1 else 0)
/-- How often an agent is picked. -/
def cnt (a : Int) (l : List Ev) : Nat := l.foldl (cstep a) 0
def rnd (m : Nat) : Nat → List Ev
  | 0 => []
  | T + 1 => rnd m T ++ [(3, ((T % m : Nat) : Int), 0)]
theorem rnd_len (m : Nat) : ∀ T, (rnd m T).length = T
  | 0 => rfl
  | T + 1 => by
    show (rnd m T ++ [_]).length = _
    rw [List.length_append, rnd_len m T]; rfl
theorem isP_rnd (m a c q : Nat) (hc : c < m) : isP (a : Int) ((3 : Int), (((q * m + c) % m : Nat) : Int), (0 : Int)) = decide (c = a) := by
  unfold isP
  rw [Nat.add_comm (q * m) c, Nat.add_mul_mod_self_right, Nat.mod_eq_of_lt hc]
  by_cases h : c = a
  · subst h; simp
  · have h2 : ¬ ((c : Int) = (a : Int)) := by omega
    simp [h, h2]
def gn (m a q c : Nat) : Nat := if q = 0 then (if c ≤ a then c else c - 1 - a) else (if c ≤ a then c + (m - 1 - a) else c - 1 - a)
def gl (m a q c : Nat) : Nat := if q = 0 then (if c ≤ a then c else max a (c - 1 - a)) else if q = 1 then (if c ≤ a then max a (m - 1 - a + c) else m - 1) else m - 1
theorem gap_step (m a q c : Nat) (ha : a < m) (hc : c < m) : gstep a (gl m a q c, gn m a q c) ((3 : Int), (((q * m + c) % m : Nat) : Int), (0 : Int)) = (gl m a q (c + 1), gn m a q (c + 1)) := by
  unfold gstep
  rw [isP_rnd m a c q hc]
  dsimp only
  by_cases h : c = a
  · subst h
    simp only [decide_true, if_true]
    unfold gl gn
    by_cases hq : q = 0
    · simp only [hq, if_true]
      rw [if_pos (Nat.le_refl _), if_neg (by omega), if_neg (by omega)]
      ext <;> dsimp only <;> omega
    · simp only [hq, if_false]
      by_cases h1 : q = 1
      · simp only [h1, if_true]
        rw [if_pos (Nat.le_refl _), if_neg (by omega), if_neg (by omega)]
        ext <;> dsimp only <;> omega
      · simp only [h1, if_false]
        rw [if_neg (by omega)]
        ext <;> dsimp only <;> omega
  · simp only [h, decide_false, Bool.false_eq_true, if_false]
    unfold gl gn
    by_cases hq : q = 0
    · simp only [hq, if_true]
      by_cases hca : c ≤ a
      · rw [if_pos hca, if_pos hca, if_pos (by omega), if_pos (by omega)]
        ext <;> dsimp only <;> omega
      · rw [if_neg hca, if_neg hca, if_neg (by omega), if_neg (by omega)]
        ext <;> dsimp only <;> omega
    · simp only [hq, if_false]
      by_cases h1 : q = 1
      · simp only [h1, if_true]
        by_cases hca : c ≤ a
        · rw [if_pos hca, if_pos hca, if_pos (by omega), if_pos (by omega)]
          ext <;> dsimp only <;> omega
        · rw [if_neg hca, if_neg hca, if_neg (by omega), if_neg (by omega)]
          ext <;> dsimp only <;> omega
      · simp only [h1, if_false]
        by_cases hca : c ≤ a
        · rw [if_pos hca, if_pos (by omega)]
          ext <;> dsimp only <;> omega
        · rw [if_neg hca, if_neg (by omega)]
          ext <;> dsimp only <;> omega
theorem gap_turn (m a q : Nat) (ha : a < m) : gl m a q m = gl m a (q + 1) 0 ∧ gn m a q m = gn m a (q + 1) 0 := by
  have hma : ¬ m ≤ a := by omega
  have h1 : ¬ (q + 1 = 0) := by omega
  unfold gl gn
  by_cases hq : q = 0
  · subst hq
    constructor <;> (repeat' split) <;> omega
  · have h2 : ¬ (q + 1 = 1) := by omega
    simp only [hq, hma, h1, h2, if_false, if_true, Nat.zero_le]
    constructor
    · split <;> rfl
    · omega
theorem rnd_fold {β : Type} (f : β → Ev → β) (b : β) (g : Nat → Nat → β) (m : Nat) (h0 : g 0 0 = b) (hs : ∀ q c, c < m → f (g q c) ((3 : Int), (((q * m + c) % m : Nat) : Int), (0 : Int)) = g q (c + 1)) (ht : ∀ q, g q m = g (q + 1) 0) :
    ∀ q c, c ≤ m → (rnd m (q * m + c)).foldl f b = g q c := by
  have hin : ∀ q, (rnd m (q * m)).foldl f b = g q 0 → ∀ c, c ≤ m → (rnd m (q * m + c)).foldl f b = g q c := by
    intro q hq c
    induction c with
    | zero => intro _; exact hq
    | succ c ih =>
      intro hc
      show (rnd m (q * m + c) ++ [_]).foldl f b = _
      rw [List.foldl_append, ih (by omega)]
      exact hs q c (by omega)
  have hz : ∀ q, (rnd m (q * m)).foldl f b = g q 0 := by
    intro q
    induction q with
    | zero => rw [Nat.zero_mul]; exact h0.symm
    | succ q ih => rw [Nat.add_mul, Nat.one_mul, hin q ih m (Nat.le_refl _), ht]
  exact fun q c hc => hin q (hz q) c hc
theorem rnd_gap (m a : Nat) (ha : a < m) (q c : Nat) (hc : c ≤ m) : gapS (a : Int) (rnd m (q * m + c)) = (gl m a q c, gn m a q c) :=
  rnd_fold (gstep a) (0, 0) (fun q c => (gl m a q c, gn m a q c)) m (by unfold gl gn; rfl) (fun q c hc => gap_step m a q c ha hc) (fun q => by rw [(gap_turn m a q ha).1, (gap_turn m a q ha).2]) q c hc
theorem rnd_cnt (m a : Nat) (ha : a < m) (q c : Nat) (hc : c ≤ m) : cnt (a : Int) (rnd m (q * m + c)) = q + (if a < c then 1 else 0) :=
  rnd_fold (cstep a) 0 (fun q c => q + (if a < c then 1 else 0)) m rfl (fun q c hc => by
    unfold cstep
    rw [isP_rnd m a c q hc]
    by_cases h : c = a
    · subst h; simp
    · by_cases h2 : a < c
      · rw [if_pos h2, if_pos (show a < c + 1 by omega)]; simp [h]
      · rw [if_neg h2, if_neg (show ¬ a < c + 1 by omega)]; simp [h]) (fun q => by simp [ha]) q c hc
/-- Rounds are fair; nothing shorter is, behind two. -/
theorem rnd_fair (m a k : Nat) (ha : a < m) : (gapS (a : Int) (rnd m (k * m))).1 ≤ m - 1 ∧ (2 ≤ k → (gapS (a : Int) (rnd m (k * m))).1 = m - 1) := by
  have h := rnd_gap m a ha k 0 (Nat.zero_le _)
  rw [Nat.add_zero] at h
  rw [h]
  unfold gl
  refine ⟨?_, fun hk => ?_⟩
  · dsimp only
    split
    · simp
    · split
      · rw [if_pos (Nat.zero_le _)]; omega
      · omega
  · dsimp only
    rw [if_neg (by omega), if_neg (by omega)]
theorem gap_bd (a : Int) : ∀ (l : List Ev) (s : Nat × Nat), (l.foldl (gstep a) s).1 ≤ max s.1 (s.2 + l.length) ∧ (l.foldl (gstep a) s).2 ≤ s.2 + l.length
  | [], s => by simp; omega
  | e :: l, s => by
    have h := gap_bd a l (gstep a s e)
    show (l.foldl (gstep a) (gstep a s e)).1 ≤ _ ∧ (l.foldl (gstep a) (gstep a s e)).2 ≤ _
    have h1 : (gstep a s e).2 ≤ s.2 + 1 := by unfold gstep; dsimp only; split <;> omega
    have h2 : (gstep a s e).1 ≤ max s.1 (s.2 + 1) := by unfold gstep; dsimp only; split <;> omega
    rw [List.length_cons]
    omega
theorem gap_le (a : Int) (l : List Ev) : (gapS a l).1 ≤ l.length ∧ (gapS a l).2 ≤ l.length := by
  have h := gap_bd a l (0, 0)
  unfold gapS
  dsimp only at h
  omega
theorem cnt_bd (a : Int) : ∀ (l : List Ev) (s : Nat), l.foldl (cstep a) s ≤ s + l.length
  | [], s => by simp
  | e :: l, s => by
    have h := cnt_bd a l (cstep a s e)
    have h1 : cstep a s e ≤ s + 1 := by unfold cstep; split <;> omega
    show l.foldl (cstep a) (cstep a s e) ≤ _
    rw [List.length_cons]
    omega
theorem cnt_le (a : Int) (l : List Ev) : cnt a l ≤ l.length := by have h := cnt_bd a l 0; unfold cnt; omega
theorem isP_yes (a : Int) (e : Ev) (h1 : e.1 = 3) (h2 : e.2.1 = a) : isP a e = true := by unfold isP; simp [h1, h2]
theorem isP_no1 (a : Int) (e : Ev) (h1 : ¬ e.1 = 3) : isP a e = false := by unfold isP; simp [h1]
theorem isP_no2 (a : Int) (e : Ev) (h1 : ¬ e.2.1 = a) : isP a e = false := by unfold isP; simp [h1]
theorem gap_take (a : Int) (l : List Ev) (i : Nat) (e : Ev) (h : l[i]? = some e) : gapS a (l.take (i + 1)) = gstep a (gapS a (l.take i)) e := fold_take _ _ l i e h
theorem cnt_take (a : Int) (l : List Ev) (i : Nat) (e : Ev) (h : l[i]? = some e) : cnt a (l.take (i + 1)) = cstep a (cnt a (l.take i)) e := fold_take _ _ l i e h
/-- Runs: the pairs behind so many events. -/
def bump : List (Int × Int) → List (Int × Int)
  | [] => []
  | [x] => [(x.1, x.2 + 1)]
  | x :: y :: l => x :: bump (y :: l)
theorem bump_len : ∀ l, (bump l).length = l.length
  | [] => rfl
  | [x] => rfl
  | x :: y :: l => by show (bump (y :: l)).length + 1 = _; rw [bump_len (y :: l)]; rfl
def rsF (l : List Ev) : Nat → List (Int × Int)
  | 0 => []
  | k + 1 => match l[k]? with
    | none => rsF l k
    | some e => if e.1 = 3 then (if k > 0 ∧ (match l[k - 1]? with | some d => isP e.2.1 d | none => false) = true then bump (rsF l k) else rsF l k ++ [(e.2.1, 1)]) else rsF l k
end Go.Proofs.Ytdlgpbmeeiakdaa

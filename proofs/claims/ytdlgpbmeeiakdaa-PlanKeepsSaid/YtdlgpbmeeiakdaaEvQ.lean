/-
  Numbers as events: gaps and runs by numbers alone.
-/
import Derived.Test.YtdlgpbmeeiakdaaEvP
namespace Go.Proofs.Ytdlgpbmeeiakdaa
/-- A number as an event: a step of an agent; below 0 a tick. -/
def evOf (x : Int) : Ev := if x < 0 then (2, 0, 1) else (3, x, 0)
theorem isP_evOf (a x : Int) (ha : 0 ≤ a) : isP a (evOf x) = decide (x = a) := by
  unfold isP evOf
  by_cases h : x < 0
  · rw [if_pos h]; simp; omega
  · rw [if_neg h]; simp
theorem isP_evOf_neg (a x : Int) (ha : a < 0) : isP a (evOf x) = false := by
  unfold isP evOf
  by_cases h : x < 0
  · rw [if_pos h]; simp
  · rw [if_neg h]; simp; omega
/-- How far an agent isn't met. -/
def pre (a : Int) : List Int → Nat
  | [] => 0
  | x :: l => if x = a then 0 else pre a l + 1
def Mg (a : Int) : List Int → Nat
  | [] => 0
  | x :: l => max (pre a (x :: l)) (Mg a l)
theorem pre_le_Mg (a : Int) : ∀ l, pre a l ≤ Mg a l
  | [] => Nat.le_refl _
  | x :: l => Nat.le_max_left _ _
theorem gap_pre (a : Int) (ha : 0 ≤ a) : ∀ (l : List Int) (L N : Nat), N ≤ L → ((l.map evOf).foldl (gstep a) (L, N)).1 = max L (max (N + pre a l) (Mg a l))
  | [], L, N, h => by show L = _; unfold pre Mg; omega
  | x :: l, L, N, h => by
    show ((l.map evOf).foldl (gstep a) (gstep a (L, N) (evOf x))).1 = _
    have hgs : gstep a (L, N) (evOf x) = (max L (if x = a then 0 else N + 1), if x = a then 0 else N + 1) := by
      unfold gstep
      rw [isP_evOf a x ha]
      simp
    rw [hgs]
    by_cases hx : x = a
    · rw [if_pos hx]
      subst hx
      rw [gap_pre x ha l _ 0 (Nat.zero_le _)]
      have := pre_le_Mg x l
      rw [show Mg x (x :: l) = max (pre x (x :: l)) (Mg x l) from rfl]
      rw [show pre x (x :: l) = 0 from by rw [pre]; simp]
      omega
    · rw [if_neg hx]
      rw [gap_pre a ha l _ (N + 1) (by omega)]
      rw [show Mg a (x :: l) = max (pre a (x :: l)) (Mg a l) from rfl]
      rw [show pre a (x :: l) = pre a l + 1 from by rw [pre]; simp [hx]]
      omega
theorem gap_Mg (a : Int) (ha : 0 ≤ a) (l : List Int) : (gapS a (l.map evOf)).1 = Mg a l := by
  unfold gapS
  rw [gap_pre a ha l 0 0 (Nat.le_refl _)]
  have := pre_le_Mg a l
  omega
/-- The most of the first so many beginnings. -/
def mx (a : Int) (l : List Int) : Nat → Nat
  | 0 => 0
  | i + 1 => max (mx a l i) (pre a (l.drop i))
theorem Mg_drop (a : Int) (l : List Int) (i : Nat) (h : i < l.length) : Mg a (l.drop i) = max (pre a (l.drop i)) (Mg a (l.drop (i + 1))) := by
  rw [List.drop_eq_getElem_cons h]
  rfl
theorem mx_Mg (a : Int) (l : List Int) : ∀ i, i ≤ l.length → max (mx a l i) (Mg a (l.drop i)) = Mg a l
  | 0, _ => by show max 0 (Mg a l) = _; omega
  | i + 1, h => by
    have ih := mx_Mg a l i (by omega)
    rw [Mg_drop a l i (by omega)] at ih
    show max (max (mx a l i) (pre a (l.drop i))) _ = _
    omega
theorem mx_all (a : Int) (l : List Int) : mx a l l.length = Mg a l := by
  have h := mx_Mg a l l.length (Nat.le_refl _)
  rw [List.drop_length] at h
  rw [← h]
  show _ = max _ 0
  omega
theorem pre_le (a : Int) : ∀ l, pre a l ≤ l.length
  | [] => Nat.le_refl _
  | x :: l => by unfold pre; have := pre_le a l; rw [List.length_cons]; split <;> omega
theorem pre_lt (a : Int) : ∀ (l : List Int) (n : Nat) (x : Int), l[n]? = some x → n ≤ pre a l → (x = a ↔ n = pre a l)
  | [], n, x, h, _ => by simp at h
  | y :: l, 0, x, h, _ => by
    have : y = x := by simpa using h
    subst this
    unfold pre
    by_cases hy : y = a
    · simp [hy]
    · simp [hy]
  | y :: l, n + 1, x, h, hn => by
    unfold pre at hn ⊢
    by_cases hy : y = a
    · rw [if_pos hy] at hn; omega
    · rw [if_neg hy] at hn ⊢
      have ih := pre_lt a l n x (by simpa using h) (by omega)
      rw [ih]; omega
theorem pre_end (a : Int) (l : List Int) (n : Nat) (h : n ≤ pre a l) (hl : l.length ≤ n) : n = pre a l := by have := pre_le a l; omega
/-- Runs of numbers: behind so many. -/
def rsI (l : List Int) : Nat → List (Int × Int)
  | 0 => []
  | k + 1 => match l[k]? with
    | none => rsI l k
    | some x => if x < 0 then rsI l k else if k > 0 ∧ l[k - 1]? = some x then bump (rsI l k) else rsI l k ++ [(x, 1)]
/-- Is the event ahead a step of that agent? -/
def pvP (l : List Ev) (k : Nat) (x : Int) : Bool := decide (0 < k) && (match l[k - 1]? with | some d => isP x d | none => false)
theorem pvP_zero (l : List Ev) (x : Int) : pvP l 0 x = false := rfl
theorem pvP_some (l : List Ev) (k : Nat) (x : Int) (d : Ev) (hk : 0 < k) (hd : l[k - 1]? = some d) : pvP l k x = isP x d := by unfold pvP; rw [hd]; simp [hk]
theorem pvP_yes (l : List Ev) (k : Nat) (x : Int) (h : pvP l k x = true) : 0 < k ∧ ∃ d, l[k - 1]? = some d ∧ isP x d = true := by
  unfold pvP at h
  rcases hd : l[k - 1]? with _ | d
  · rw [hd] at h; simp at h
  · rw [hd] at h
    simp at h
    exact ⟨h.1, d, rfl, h.2⟩
/-- Runs behind so many events. -/
def rsE (l : List Ev) : Nat → List (Int × Int)
  | 0 => []
  | k + 1 => match l[k]? with
    | none => rsE l k
    | some e => if e.1 = 3 then (if pvP l k e.2.1 = true then bump (rsE l k) else rsE l k ++ [(e.2.1, 1)]) else rsE l k
theorem rsE_rsI (l : List Int) : ∀ k, rsE (l.map evOf) k = rsI l k
  | 0 => rfl
  | k + 1 => by
    unfold rsE rsI
    rw [rsE_rsI l k, List.getElem?_map]
    rcases hx : l[k]? with _ | x
    · rfl
    · dsimp only [Option.map]
      by_cases h : x < 0
      · rw [if_pos h]
        have : ¬ (evOf x).1 = 3 := by unfold evOf; rw [if_pos h]; decide
        rw [if_neg this]
      · rw [if_neg h]
        have h1 : (evOf x).1 = 3 := by unfold evOf; rw [if_neg h]
        have h2 : (evOf x).2.1 = x := by unfold evOf; rw [if_neg h]
        rw [if_pos h1, h2]
        have he : (pvP (l.map evOf) k x = true) = (k > 0 ∧ l[k - 1]? = some x) := by
          unfold pvP
          rw [List.getElem?_map]
          rcases l[k - 1]? with _ | y
          · simp
          · dsimp only [Option.map]
            rw [isP_evOf x y (by omega)]
            simp
        exact ite_congr he (fun _ => rfl) (fun _ => rfl)
theorem bump_snoc : ∀ (l : List (Int × Int)) (x n : Int), bump (l ++ [(x, n)]) = l ++ [(x, n + 1)]
  | [], x, n => rfl
  | [y], x, n => rfl
  | y :: z :: l, x, n => by
    show y :: bump (z :: l ++ [(x, n)]) = _
    rw [bump_snoc (z :: l) x n]
    rfl
/-- One run more. -/
theorem rsI_run (l : List Int) (i : Nat) (v : Int) (h0 : i = 0 ∨ ∃ u, l[i - 1]? = some u ∧ u ≠ v) : ∀ n, (∀ j, j < n + 1 → l[i + j]? = some v) → rsI l (i + (n + 1)) = if v < 0 then rsI l i else rsI l i ++ [(v, ((n + 1 : Nat) : Int))]
  | 0, h => by
    show rsI l (i + 1) = _
    rw [rsI]
    have := h 0 (by omega)
    rw [Nat.add_zero] at this
    rw [this]
    dsimp only
    by_cases hv : v < 0
    · rw [if_pos hv, if_pos hv]
    · rw [if_neg hv, if_neg hv]
      rw [if_neg]
      · rfl
      · rintro ⟨hi, he⟩
        rcases h0 with h0 | ⟨u, hu, hne⟩
        · omega
        · rw [hu] at he; exact hne (by simpa using he)
  | n + 1, h => by
    have ih := rsI_run l i v h0 n (fun j hj => h j (by omega))
    show rsI l ((i + (n + 1)) + 1) = _
    rw [rsI, h (n + 1) (by omega)]
    dsimp only
    by_cases hv : v < 0
    · rw [if_pos hv, if_pos hv]; rw [if_pos hv] at ih; exact ih
    · rw [if_neg hv, if_neg hv]
      rw [if_neg hv] at ih
      rw [if_pos ⟨by omega, by rw [show i + (n + 1) - 1 = i + n from by omega]; exact h n (by omega)⟩, ih, bump_snoc]
      simp [Nat.add_comm]
      try omega
end Go.Proofs.Ytdlgpbmeeiakdaa

/-
  Runs as rows of pairs, by numbers alone.
-/
import Derived.Test.YtdlgpbmeeiakdaaEvQ
namespace Go.Proofs.Ytdlgpbmeeiakdaa
def prc (p : Int × Int) : List Value := [.int .i64 p.1, .int .i64 p.2]
def prl : List (Int × Int) → List Value
  | [] => []
  | p :: l => prc p ++ prl l
theorem prl_len : ∀ l : List (Int × Int), (prl l).length = l.length * 2
  | [] => rfl
  | p :: l => by
    show (prc p ++ prl l).length = (l.length + 1) * 2
    rw [List.length_append, prl_len l]
    show 2 + l.length * 2 = _
    omega
theorem prl_snoc : ∀ (l : List (Int × Int)) (p : Int × Int), prl (l ++ [p]) = prl l ++ prc p
  | [], p => by show prc p ++ [] = [] ++ prc p; rw [List.append_nil, List.nil_append]
  | q :: l, p => by
    show prc q ++ prl (l ++ [p]) = prc q ++ prl l ++ prc p
    rw [prl_snoc l p, List.append_assoc]
theorem prc_one (p : Int × Int) : ∀ u ∈ prc p, u.oneCell' = true := by
  intro u hu
  simp only [prc, List.mem_cons, List.not_mem_nil, or_false] at hu
  rcases hu with h | h <;> (subst h; rfl)
theorem prl_get : ∀ (l : List (Int × Int)) (i : Nat) (p : Int × Int), l[i]? = some p → (prl l)[i * 2]? = some (.int .i64 p.1) ∧ (prl l)[i * 2 + 1]? = some (.int .i64 p.2)
  | [], i, p, h => by simp at h
  | q :: l, 0, p, h => by
    have : q = p := by simpa using h
    subst this
    exact ⟨rfl, rfl⟩
  | q :: l, i + 1, p, h => by
    have ih := prl_get l i p (by simpa using h)
    constructor
    · rw [show (i + 1) * 2 = i * 2 + 2 from by omega]; exact ih.1
    · rw [show (i + 1) * 2 + 1 = i * 2 + 1 + 2 from by omega]; exact ih.2
/-- The last pair's second number: its place, and what a store there leaves. -/
theorem prl_set (R : List (Int × Int)) (x n m : Int) : (prl (R ++ [(x, n)])).set (R.length * 2 + 1) (.int .i64 m) = prl (R ++ [(x, m)]) := by
  rw [prl_snoc, prl_snoc, List.set_append_right _ _ (by rw [prl_len]; omega), prl_len, show R.length * 2 + 1 - R.length * 2 = 1 from by omega]
  rfl
theorem rsE_len (l : List Ev) : ∀ k, (rsE l k).length ≤ k
  | 0 => Nat.le_refl _
  | k + 1 => by
    have ih := rsE_len l k
    unfold rsE
    rcases l[k]? with _ | e
    · dsimp only; omega
    · dsimp only
      by_cases h3 : e.1 = 3
      · rw [if_pos h3]
        by_cases hp : pvP l k e.2.1 = true
        · rw [if_pos hp, bump_len]; omega
        · rw [if_neg hp, List.length_append]; show _ + 1 ≤ _; omega
      · rw [if_neg h3]; omega
theorem isP_iff (a : Int) (e : Ev) : isP a e = true ↔ e.1 = 3 ∧ e.2.1 = a := by unfold isP; simp
/-- A step of the runs, in its ways. -/
theorem rsE_skip (l : List Ev) (k : Nat) (e : Ev) (h : l[k]? = some e) (h3 : ¬ e.1 = 3) : rsE l (k + 1) = rsE l k := by
  rw [rsE, h]; dsimp only; rw [if_neg h3]
theorem rsE_new (l : List Ev) (k : Nat) (e : Ev) (h : l[k]? = some e) (h3 : e.1 = 3) (hp : pvP l k e.2.1 = false) : rsE l (k + 1) = rsE l k ++ [(e.2.1, 1)] := by
  rw [rsE, h]; dsimp only; rw [if_pos h3, hp]; rfl
theorem rsE_bump (l : List Ev) (k : Nat) (e : Ev) (h : l[k]? = some e) (h3 : e.1 = 3) (hp : pvP l k e.2.1 = true) : rsE l (k + 1) = bump (rsE l k) := by
  rw [rsE, h]; dsimp only; rw [if_pos h3, if_pos hp]
theorem rsE_last (l : List Ev) : ∀ (k : Nat) (d : Ev), l[k]? = some d → d.1 = 3 → ∃ R n, rsE l (k + 1) = R ++ [(d.2.1, n)] ∧ 1 ≤ n ∧ n ≤ (k : Int) + 1
  | 0, d, h, h3 => ⟨[], 1, by rw [rsE_new l 0 d h h3 (pvP_zero _ _)]; rfl, by omega, by omega⟩
  | k + 1, d, h, h3 => by
    by_cases hp : pvP l (k + 1) d.2.1 = true
    · obtain ⟨_, y, hy, hpy⟩ := pvP_yes _ _ _ hp
      obtain ⟨y3, yx⟩ := (isP_iff _ _).1 hpy
      obtain ⟨R, n, hR, hn1, hn2⟩ := rsE_last l k y (by simpa using hy) y3
      exact ⟨R, n + 1, by rw [rsE_bump l _ d h h3 hp, hR, bump_snoc, yx], by omega, by omega⟩
    · exact ⟨rsE l (k + 1), 1, rsE_new l _ d h h3 (by simpa using hp), by omega, by omega⟩
theorem rsE_more (l : List Ev) (k : Nat) (e : Ev) (h : l[k]? = some e) (h3 : e.1 = 3) (hp : pvP l k e.2.1 = true) : ∃ R n, rsE l k = R ++ [(e.2.1, n)] ∧ rsE l (k + 1) = R ++ [(e.2.1, n + 1)] ∧ 1 ≤ n ∧ n ≤ (k : Int) := by
  obtain ⟨hk, d, hd, hpd⟩ := pvP_yes _ _ _ hp
  obtain ⟨d3, dx⟩ := (isP_iff _ _).1 hpd
  obtain ⟨k', rfl⟩ : ∃ k', k = k' + 1 := ⟨k - 1, by omega⟩
  obtain ⟨R, n, hR, h1, h2⟩ := rsE_last l k' d (by simpa using hd) d3
  exact ⟨R, n, by rw [hR, dx], by rw [rsE_bump l _ e h h3 hp, hR, bump_snoc, dx], h1, by omega⟩
end Go.Proofs.Ytdlgpbmeeiakdaa

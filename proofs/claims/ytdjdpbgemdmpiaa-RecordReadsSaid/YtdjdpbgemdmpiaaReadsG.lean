/-
  RecordReads without the program: what has been told after so many rounds.
-/
import Derived.Test.YtdjdpbgemdmpiaaKit
namespace Go.Proofs.Ytdjdpbgemdmpiaa
/-- Which slots are filled, how many fills are told, whether the end is. -/
structure Rd where
  S : Nat → Bool
  N : Nat
  G : Bool
def Rd.fill (r : Rd) (k : Nat) : Rd := ⟨fun j => if j = k then true else r.S j, r.N, r.G⟩
def Rd.tell (n : Nat) (r : Rd) : Rd :=
  if r.G then r else if r.N < n then (if r.S r.N then ⟨r.S, r.N + 1, false⟩ else r) else (if r.S n then ⟨r.S, r.N, true⟩ else r)
/-- After i rounds: K i is the slot of the round, F and more is none. -/
def rd (n : Nat) (K : Nat → Nat) : Nat → Rd
  | 0 => ⟨fun _ => false, 0, false⟩
  | i + 1 => Rd.tell n (if K i < n + 1 then (rd n K i).fill (K i) else rd n K i)
theorem tell_S (n : Nat) (r : Rd) : (Rd.tell n r).S = r.S := by
  unfold Rd.tell
  split
  · rfl
  · split
    · split <;> rfl
    · split <;> rfl
theorem rd_le (n : Nat) (K : Nat → Nat) (i : Nat) : (rd n K i).N ≤ n := by
  induction i with
  | zero => exact Nat.zero_le _
  | succ i ih =>
    have e : ∀ r : Rd, r.N ≤ n → (Rd.tell n r).N ≤ n := by
      intro r hr
      unfold Rd.tell
      split
      · exact hr
      · split
        · split
          · show r.N + 1 ≤ n; omega
          · exact hr
        · split
          · exact hr
          · exact hr
    refine e _ ?_
    split
    · exact ih
    · exact ih
theorem rd_keep (n : Nat) (K : Nat → Nat) (i k : Nat) (h : (rd n K i).S k = true) : (rd n K (i + 1)).S k = true := by
  show (Rd.tell n _).S k = true
  rw [tell_S]
  split
  · show (if k = K i then true else (rd n K i).S k) = true
    split
    · rfl
    · exact h
  · exact h
theorem rd_set (n : Nat) (K : Nat → Nat) (i : Nat) (h : K i < n + 1) : (rd n K (i + 1)).S (K i) = true := by
  show (Rd.tell n _).S (K i) = true
  rw [tell_S, if_pos h]
  show (if K i = K i then true else _) = true
  exact if_pos rfl
theorem rd_later (n : Nat) (K : Nat → Nat) (i d k : Nat) (h : (rd n K i).S k = true) : (rd n K (i + d)).S k = true := by
  induction d with
  | zero => exact h
  | succ d ih => exact rd_keep n K (i + d) k ih
/-- Any row of F rounds goes through all. -/
theorem goes_through (F lo k : Nat) (hF : 0 < F) (hk : k < F) : ∃ i, lo ≤ i ∧ i < lo + F ∧ i % F = k := by
  have h1 : lo % F < F := Nat.mod_lt _ hF
  by_cases h : lo % F ≤ k
  · refine ⟨lo + (k - lo % F), by omega, by omega, ?_⟩
    have e := Nat.div_add_mod lo F
    have : lo + (k - lo % F) = k + F * (lo / F) := by omega
    rw [this, Nat.add_mul_mod_self_left, Nat.mod_eq_of_lt hk]
  · refine ⟨lo + (F - lo % F + k), by omega, by omega, ?_⟩
    have e := Nat.div_add_mod lo F
    have : lo + (F - lo % F + k) = k + F * (lo / F + 1) := by rw [Nat.mul_add, Nat.mul_one]; omega
    rw [this, Nat.add_mul_mod_self_left, Nat.mod_eq_of_lt hk]
theorem all_full (n lo : Nat) (K : Nat → Nat) (hK : ∀ i, lo ≤ i → K i = i % (n + 1)) (i k : Nat) (hi : lo + (n + 1) ≤ i) (hk : k < n + 1) : (rd n K i).S k = true := by
  obtain ⟨j, h1, h2, h3⟩ := goes_through (n + 1) lo k (by omega) hk
  have e : K j = k := by rw [hK j h1, h3]
  have h := rd_set n K j (by omega)
  rw [e] at h
  have := rd_later n K (j + 1) (i - (j + 1)) k h
  rw [show j + 1 + (i - (j + 1)) = i from by omega] at this
  exact this
theorem told_all (n lo : Nat) (K : Nat → Nat) (hK : ∀ i, lo ≤ i → K i = i % (n + 1)) (d : Nat) : (rd n K (lo + (n + 1) + d)).G = true ∨ d ≤ (rd n K (lo + (n + 1) + d)).N := by
  induction d with
  | zero => exact .inr (Nat.zero_le _)
  | succ d ih =>
    have hle := rd_le n K (lo + (n + 1) + d)
    have hS : ∀ k, k < n + 1 → (rd n K (lo + (n + 1) + d)).S k = true := fun k hk => all_full n lo K hK _ k (by omega) hk
    show (Rd.tell n (if K (lo + (n + 1) + d) < n + 1 then (rd n K (lo + (n + 1) + d)).fill (K (lo + (n + 1) + d)) else rd n K (lo + (n + 1) + d))).G = true ∨ d + 1 ≤ (Rd.tell n (if K (lo + (n + 1) + d) < n + 1 then (rd n K (lo + (n + 1) + d)).fill (K (lo + (n + 1) + d)) else rd n K (lo + (n + 1) + d))).N
    generalize rd n K (lo + (n + 1) + d) = r at *
    generalize K (lo + (n + 1) + d) = k
    have key : ∀ q : Rd, q.N = r.N → q.G = r.G → (∀ j, j < n + 1 → q.S j = true) → (Rd.tell n q).G = true ∨ d + 1 ≤ (Rd.tell n q).N := by
      intro q hN hG hq
      unfold Rd.tell
      rcases ih with hg | hd
      · left
        rw [if_pos (by rw [hG]; exact hg), hG]
        exact hg
      · split
        · left; assumption
        · split
          · rw [if_pos (hq _ (by omega))]
            right
            show d + 1 ≤ q.N + 1
            omega
          · rw [if_pos (hq n (by omega))]
            exact .inl rfl
    split
    · exact key _ rfl rfl fun j hj => by
        show (if j = k then true else r.S j) = true
        split
        · rfl
        · exact hS j hj
    · exact key _ rfl rfl hS
/-- THE CLAIM: at the end all is told. -/
theorem rd_end (n lo : Nat) (K : Nat → Nat) (hK : ∀ i, lo ≤ i → K i = i % (n + 1)) : (rd n K (lo + 2 * (n + 1))).G = true := by
  have h := told_all n lo K hK (n + 1)
  rw [show lo + (n + 1) + (n + 1) = lo + 2 * (n + 1) from by omega] at h
  have hle := rd_le n K (lo + 2 * (n + 1))
  rcases h with h | h
  · exact h
  · omega
end Go.Proofs.Ytdjdpbgemdmpiaa

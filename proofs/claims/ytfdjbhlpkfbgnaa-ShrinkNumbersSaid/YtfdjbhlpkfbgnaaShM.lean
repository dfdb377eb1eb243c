/-
  Events as rows of twelve numbers; what is left of a script: numbers alone.
-/
import Derived.Test.YtfdjbhlpkfbgnaaRows
import Derived.Test.YtfdjbhlpkfbgnaaKit
import Derived.WalkKit
import Derived.ProofKit
import Derived.Lib.Hide
import Derived.IntWalk
namespace Go.Proofs.Ytfdjbhlpkfbgnaa
open Go.ChangeShapes Go.WideShapes Go.ChangeAt Go.RowKit
structure Evn where
  k : Int
  w : Int
  n : Int
  ak : Int
  ai : Int
  ac : Int
  an : Int
  sd : Int
  ap : Int
  al : Int
  au : Int
  aq : Int
def nc (x : Evn) : List Value := [.int .i64 x.k, .int .i64 x.w, .int .i64 x.n, .int .i64 x.ak, .int .i64 x.ai, .int .i64 x.ac, .int .i64 x.an, .int .i64 x.sd, .int .i64 x.ap, .int .i64 x.al, .int .i64 x.au, .int .i64 x.aq]
def nv (l : List Evn) : List Value := (l.map nc).flatten
theorem nc_len (x : Evn) : (nc x).length = 12 := rfl
theorem nv_len : ∀ l : List Evn, (nv l).length = l.length * 12
  | [] => rfl
  | x :: r => by
    have h := nv_len r
    unfold nv at h ⊢
    rw [List.map_cons, List.flatten_cons, List.length_append, h, nc_len, List.length_cons]
    omega
theorem nv_append (a b : List Evn) : nv (a ++ b) = nv a ++ nv b := by
  unfold nv
  rw [List.map_append, List.flatten_append]
theorem nv_snoc (l : List Evn) (x : Evn) : nv (l ++ [x]) = nv l ++ nc x := by
  rw [nv_append]
  show nv l ++ ((nc x) ++ []) = _
  rw [List.append_nil]
theorem nv_get : ∀ (l : List Evn) (k j : Nat) (x : Evn), l[k]? = some x → j < 12 → (nv l)[k * 12 + j]? = (nc x)[j]?
  | [], k, j, x, h, _ => by cases h
  | y :: r, 0, j, x, h, hj => by
    obtain rfl : y = x := by simpa using h
    show (nc y ++ nv r)[0 * 12 + j]? = _
    rw [Nat.zero_mul, Nat.zero_add, List.getElem?_append_left (by rw [nc_len]; exact hj)]
  | y :: r, k + 1, j, x, h, hj => by
    show (nc y ++ nv r)[(k + 1) * 12 + j]? = _
    rw [List.getElem?_append_right (by rw [nc_len]; omega), nc_len, show (k + 1) * 12 + j - 12 = k * 12 + j from by omega]
    exact nv_get r k j x (by simpa using h) hj
theorem nv_take (l : List Evn) (k : Nat) : nv (l.take k) = (nv l).take (k * 12) := by
  induction l generalizing k with
  | nil => simp [nv]
  | cons x r ih =>
    cases k with
    | zero => simp [nv]
    | succ k =>
      show nc x ++ nv (r.take k) = (nc x ++ nv r).take ((k + 1) * 12)
      have h1 : (nc x).take ((k + 1) * 12) = nc x := List.take_of_length_le (by rw [nc_len]; omega)
      rw [ih, List.take_append, nc_len, h1, show (k + 1) * 12 - 12 = k * 12 from by omega]
theorem nv_drop (l : List Evn) (k : Nat) : nv (l.drop k) = (nv l).drop (k * 12) := by
  induction l generalizing k with
  | nil => simp [nv]
  | cons x r ih =>
    cases k with
    | zero => simp [nv]
    | succ k =>
      show nv (r.drop k) = (nc x ++ nv r).drop ((k + 1) * 12)
      have h1 : (nc x).drop ((k + 1) * 12) = [] := List.drop_of_length_le (by rw [nc_len]; omega)
      rw [ih, List.drop_append, nc_len, h1, show (k + 1) * 12 - 12 = k * 12 from by omega, List.nil_append]
theorem nc_one (x : Evn) : ∀ u ∈ nc x, u.oneCell' = true := by
  intro u hu
  simp only [nc, List.mem_cons, List.not_mem_nil, or_false] at hu
  rcases hu with h | h | h | h | h | h | h | h | h | h | h | h <;> (subst h; rfl)
theorem nv_one (l : List Evn) : ∀ u ∈ nv l, u.oneCell' = true := by
  intro u hu
  obtain ⟨r, hr, h2⟩ := List.mem_flatten.1 hu
  obtain ⟨x, _, rfl⟩ := List.mem_map.1 hr
  exact nc_one x u h2
/-- What an event counts. -/
def wt (kind : Int) (e : Evn) : Int := if e.k = kind then (if 0 < e.n ∧ e.n < 1000 then e.n else 1) else 0
def sumE (kind : Int) : List Evn → Int
  | [] => 0
  | e :: r => wt kind e + sumE kind r
theorem wt_bd (kind : Int) (e : Evn) : 0 ≤ wt kind e ∧ wt kind e ≤ 999 := by
  unfold wt
  split
  · split <;> omega
  · omega
theorem sumE_append (kind : Int) : ∀ a b : List Evn, sumE kind (a ++ b) = sumE kind a + sumE kind b
  | [], b => by simp [sumE]
  | x :: a, b => by
    show wt kind x + sumE kind (a ++ b) = wt kind x + sumE kind a + sumE kind b
    rw [sumE_append kind a b]
    omega
theorem sumE_bd (kind : Int) : ∀ l : List Evn, 0 ≤ sumE kind l ∧ sumE kind l ≤ 999 * l.length
  | [] => by simp [sumE]
  | x :: r => by
    have h1 := wt_bd kind x
    have h2 := sumE_bd kind r
    show 0 ≤ wt kind x + sumE kind r ∧ wt kind x + sumE kind r ≤ 999 * ((r.length + 1 : Nat) : Int)
    push_cast
    omega
theorem sumE_le (kind : Int) {a b : List Evn} (h : a.Sublist b) : sumE kind a ≤ sumE kind b := by
  induction h with
  | slnil => exact Int.le_refl _
  | cons x _ ih => have := wt_bd kind x; show _ ≤ wt kind x + _; omega
  | cons_cons x _ ih => show wt kind x + _ ≤ wt kind x + _; omega
/-- Does it hold of a script: a sum that must be there. -/
def holdsE (kind n : Int) (l : List Evn) : Bool := decide (n ≤ sumE kind l)
/-- Nothing can be taken out. -/
def Least (P : List Evn → Bool) (l : List Evn) : Prop := ∀ i, i < l.length → P (l.eraseIdx i) = false
theorem sub_erase {a b : List Evn} (h : a.Sublist b) (hne : a ≠ b) : ∃ i, i < b.length ∧ a.Sublist (b.eraseIdx i) := by
  induction h with
  | slnil => exact absurd rfl hne
  | cons x h ih => exact ⟨0, by simp, by simpa using h⟩
  | cons_cons x h ih =>
    obtain ⟨i, hi, hs⟩ := ih (fun e => hne (by rw [e]))
    exact ⟨i + 1, by simpa using hi, by simpa using hs.cons_cons x⟩
theorem least_once {kind n : Int} {x y : List Evn} (hx : Least (holdsE kind n) x) (hs : y.Sublist x) (hy : holdsE kind n y = true) : y = x := by
  apply Classical.byContradiction
  intro hne
  obtain ⟨i, hi, h2⟩ := sub_erase hs hne
  have h3 := hx i hi
  have h4 := sumE_le kind h2
  unfold holdsE at hy h3
  have h5 := of_decide_eq_true hy
  have h6 := of_decide_eq_false h3
  omega
/-- The last so many that were tried, round and round, could not go. -/
def Tried (P : List Evn → Bool) (l : List Evn) (at' kept : Nat) : Prop := ∀ i, i < l.length → ((i < at' ∧ at' ≤ i + kept) ∨ (at' ≤ i ∧ at' + l.length ≤ i + kept)) → P (l.eraseIdx i) = false
theorem Tried.start (P : List Evn → Bool) (l : List Evn) (a : Nat) (ha : a ≤ l.length) : Tried P l a 0 := fun i hi h => by omega
theorem Tried.round {P : List Evn → Bool} {l : List Evn} {k : Nat} (h : Tried P l l.length k) : Tried P l 0 k := fun i hi h2 => h i hi (by omega)
theorem Tried.fail {P : List Evn → Bool} {l : List Evn} {a k : Nat} (h : Tried P l a k) (hP : P (l.eraseIdx a) = false) : Tried P l (a + 1) (k + 1) := fun i hi h2 => by
  by_cases hia : i = a
  · subst hia; exact hP
  · exact h i hi (by omega)
theorem Tried.all {P : List Evn → Bool} {l : List Evn} {a : Nat} (h : Tried P l a l.length) (ha : a ≤ l.length) : Least P l := fun i hi => h i hi (by omega)
theorem cut_erase (l : List Evn) (i : Nat) (hi : i < l.length) : l.take i ++ l.drop (i + 1) = l.eraseIdx i := by
  rw [List.eraseIdx_eq_take_drop_succ]
theorem cut_sub (l : List Evn) (i j : Nat) (hij : i ≤ j) : (l.take i ++ l.drop j).Sublist l := by
  have h1 : l = l.take i ++ l.drop i := (List.take_append_drop i l).symm
  have h2 : (l.drop j).Sublist (l.drop i) := by
    rw [show j = i + (j - i) from by omega, ← List.drop_drop]
    exact List.drop_sublist _ _
  have h3 := (List.Sublist.refl (l.take i)).append h2
  rw [← h1] at h3
  exact h3
/-- The example: of [1, 1, 3] the only least row that comes to 3 is [3]. -/
theorem least_three {a b c : Evn} (ha : a.k = 2 ∧ a.n = 1) (hb : b.k = 2 ∧ b.n = 1) (hc : c.k = 2 ∧ c.n = 3) {x : List Evn} (hs : x.Sublist [a, b, c]) (hh : holdsE 2 3 x = true) (hl : Least (holdsE 2 3) x) : x = [c] := by
  have wa : wt 2 a = 1 := by unfold wt; rw [if_pos ha.1, if_pos (by omega)]; exact ha.2
  have wb : wt 2 b = 1 := by unfold wt; rw [if_pos hb.1, if_pos (by omega)]; exact hb.2
  have wc : wt 2 c = 3 := by unfold wt; rw [if_pos hc.1, if_pos (by omega)]; exact hc.2
  have hc1 : holdsE 2 3 [c] = true := by
    unfold holdsE
    exact decide_eq_true (by show 3 ≤ wt 2 c + 0; omega)
  have key : ([c] : List Evn).Sublist x := by
    apply Classical.byContradiction
    intro hn
    have h1 : x.Sublist [a, b] := by
      rcases List.sublist_append_iff.1 (show x.Sublist ([a, b] ++ [c]) from hs) with ⟨l1, l2, rfl, h1, h2⟩
      cases h2 with
      | cons _ h =>
        obtain rfl := List.eq_nil_of_sublist_nil h
        simpa using h1
      | cons_cons _ h =>
        obtain rfl := List.eq_nil_of_sublist_nil h
        exact absurd (List.sublist_append_right l1 [c]) hn
    have h2 := sumE_le 2 h1
    have h3 := of_decide_eq_true hh
    have h4 : sumE 2 [a, b] = 2 := by show wt 2 a + (wt 2 b + 0) = 2; omega
    omega
  exact (least_once hl key hc1).symm
end Go.Proofs.Ytfdjbhlpkfbgnaa

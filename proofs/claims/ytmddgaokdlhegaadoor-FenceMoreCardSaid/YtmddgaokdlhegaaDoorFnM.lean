/-
  Limits as rows of five numbers; what may be asked within them: numbers alone.
-/
import Derived.Test.YtmddgaokdlhegaaDoorRows
import Derived.Test.YtmddgaokdlhegaaDoorKit
import Derived.WalkKit
import Derived.ProofKit
import Derived.Lib.Hide
import Derived.IntWalk
namespace Go.Proofs.YtmddgaokdlhegaaDoor
open Go.ChangeShapes Go.WideShapes Go.ChangeAt Go.RowKit
structure Lim where
  o : Int
  q : Int
  w : Int
  n : Int
  p : Int
def lc (x : Lim) : List Value := [.int .i64 x.o, .int .i64 x.q, .int .i64 x.w, .int .i64 x.n, .int .i64 x.p]
def lv (ls : List Lim) : List Value := (ls.map lc).flatten
theorem lc_len (x : Lim) : (lc x).length = 5 := rfl
theorem lv_len : ∀ ls : List Lim, (lv ls).length = ls.length * 5
  | [] => rfl
  | x :: r => by
    have h := lv_len r
    unfold lv at h ⊢
    rw [List.map_cons, List.flatten_cons, List.length_append, h, lc_len, List.length_cons]
    omega
theorem lv_snoc (ls : List Lim) (x : Lim) : lv (ls ++ [x]) = lv ls ++ lc x := by
  unfold lv
  rw [List.map_append, List.flatten_append]
  simp
theorem lv_get : ∀ (ls : List Lim) (k j : Nat) (x : Lim), ls[k]? = some x → j < 5 → (lv ls)[k * 5 + j]? = (lc x)[j]?
  | [], k, j, x, h, _ => by cases h
  | y :: r, 0, j, x, h, hj => by
    obtain rfl : y = x := by simpa using h
    show (lc y ++ lv r)[0 * 5 + j]? = _
    rw [Nat.zero_mul, Nat.zero_add, List.getElem?_append_left (by rw [lc_len]; exact hj)]
  | y :: r, k + 1, j, x, h, hj => by
    show (lc y ++ lv r)[(k + 1) * 5 + j]? = _
    rw [List.getElem?_append_right (by rw [lc_len]; omega), lc_len, show (k + 1) * 5 + j - 5 = k * 5 + j from by omega]
    exact lv_get r k j x (by simpa using h) hj
theorem lc_one (x : Lim) : ∀ u ∈ lc x, u.oneCell' = true := by
  intro u hu
  simp only [lc, List.mem_cons, List.not_mem_nil, or_false] at hu
  rcases hu with h | h | h | h | h <;> (subst h; rfl)
theorem lv_one (ls : List Lim) : ∀ u ∈ lv ls, u.oneCell' = true := by
  intro u hu
  obtain ⟨l, hl, h2⟩ := List.mem_flatten.1 hu
  obtain ⟨x, _, rfl⟩ := List.mem_map.1 hl
  exact lc_one x u h2
/-- Limits such as may be. -/
def okN (n : Int) : Prop := 0 ≤ n ∧ n ≤ 1099511627776
structure Lok (x : Lim) : Prop where
  o : okN x.o
  q : okN x.q
  w : okN x.w
  n : okN x.n
  p : okN x.p
def badN (n : Int) : Prop := ¬ okN n
instance (n : Int) : Decidable (okN n) := inferInstanceAs (Decidable (_ ∧ _))
theorem Lok.iff (x : Lim) : Lok x ↔ okN x.o ∧ okN x.q ∧ okN x.w ∧ okN x.n ∧ okN x.p := ⟨fun h => ⟨h.1, h.2, h.3, h.4, h.5⟩, fun h => ⟨h.1, h.2.1, h.2.2.1, h.2.2.2.1, h.2.2.2.2⟩⟩
instance (x : Lim) : Decidable (Lok x) := decidable_of_iff _ (Lok.iff x).symm
/-- What is had about. -/
structure Us where
  o : Int
  q : Int
  w : Int
  n : Int
  b : Int
  s : Int
/-- What is asked. -/
structure As where
  k : Int
  i : Int
  c : Int
  n : Int
  s : Int
  p : Int
  l : Int
  u : Int
  q : Int
def sm (n : Int) : Prop := -1073741824 ≤ n ∧ n ≤ 1073741824
instance (n : Int) : Decidable (sm n) := inferInstanceAs (Decidable (_ ∧ _))
structure Usm (u : Us) : Prop where
  o : sm u.o
  q : sm u.q
  w : sm u.w
  n : sm u.n
  b : sm u.b
  s : sm u.s
def usWith (u : Us) (a : As) : Us := ⟨u.o + 1, u.q + a.q, u.w + a.q * a.p, u.n, if a.s = 0 then u.b + a.q else u.b, if a.s = 1 then u.s + a.q else u.s⟩
def far (u : Us) : Int := if u.n + u.b < u.s - u.n then u.s - u.n else u.n + u.b
def gap (p last : Int) : Int := if p - last < last - p then last - p else p - last
/-- May it be asked? -/
def mayOk (m : Lim) (a : As) (u : Us) (last : Int) : Prop := a.k = 1 → (usWith u a).o ≤ m.o ∧ (usWith u a).q ≤ m.q ∧ (usWith u a).w ≤ m.w ∧ far (usWith u a) ≤ m.n ∧ (0 < last → gap a.p last ≤ m.p)
def inside (m : Lim) (u : Us) : Prop := u.o ≤ m.o ∧ u.q ≤ m.q ∧ u.w ≤ m.w ∧ far u ≤ m.n
def more (m : Lim) (k : Int) : Lim := ⟨m.o + k, m.q + k, m.w + k, m.n + k, m.p + k⟩
theorem mayOk.more {m : Lim} {a : As} {u : Us} {last k : Int} (h : mayOk m a u last) (hk : 0 ≤ k) : mayOk (more m k) a u last := fun h1 => by
  obtain ⟨a1, a2, a3, a4, a5⟩ := h h1
  refine ⟨?_, ?_, ?_, ?_, fun h2 => ?_⟩
  · show _ ≤ m.o + k; omega
  · show _ ≤ m.q + k; omega
  · show _ ≤ m.w + k; omega
  · show _ ≤ m.n + k; omega
  · have := a5 h2; show _ ≤ m.p + k; omega
theorem inside.more {m : Lim} {u : Us} {k : Int} (h : inside m u) (hk : 0 ≤ k) : inside (more m k) u := by
  obtain ⟨a1, a2, a3, a4⟩ := h
  refine ⟨?_, ?_, ?_, ?_⟩
  · show _ ≤ m.o + k; omega
  · show _ ≤ m.q + k; omega
  · show _ ≤ m.w + k; omega
  · show _ ≤ m.n + k; omega
instance (m : Lim) (a : As) (u : Us) (last : Int) : Decidable (mayOk m a u last) := inferInstanceAs (Decidable (_ → _))
instance (m : Lim) (u : Us) : Decidable (inside m u) := inferInstanceAs (Decidable (_ ∧ _))
end Go.Proofs.YtmddgaokdlhegaaDoor

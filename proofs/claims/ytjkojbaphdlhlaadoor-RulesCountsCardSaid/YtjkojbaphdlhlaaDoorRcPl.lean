/-
  The document's places: where what stands, by counting.
-/
import Derived.Test.YtjkojbaphdlhlaaDoorRows
import Derived.WalkKit
import Derived.ProofKit
import Derived.OpenShut
import Derived.ShutString
import Derived.Below
import Derived.Outline
import Derived.WalkLawsBesides
import Derived.WalkSpells
import Derived.Handy
import Derived.Deep.QuietTactic
import Derived.BigQuiet
import Derived.RegionTactic
import Derived.ChangeAlike
import Derived.Lib.Hide
import Derived.Laws.Rows
import Derived.Laws.Tables
import Derived.Laws.CopyOwn
import Derived.Laws.MakeOwn
import Derived.Laws.Entries
import Derived.Laws.OwnMore
import Derived.Deep.WholeRow
import Derived.Deep.LoopGhost
import Derived.Deep.AppendLies
import Derived.Deep.Draws
import Derived.Maps.AppendAt
import Derived.OwnWalk
import Derived.Deep.RegionHeld3
import Derived.Deep.Cut
import Derived.Deep.CutRange
import Derived.Deep.DeepCutAuto
import Derived.Deep.CutBlock
import Derived.Lib.SliceRun
import Derived.IntWalk
import Derived.Test.YtjkojbaphdlhlaaDoorKit
import Derived.Test.YtjkojbaphdlhlaaDoorApp
namespace Go.Proofs.YtjkojbaphdlhlaaDoor.Rc
open Go.ChangeShapes Go.WideShapes Go.ChangeAt Go.RowKit
/-- What stands where: kind, cell, gen, number. -/
def pk (A : Nat) (i : Nat) : Nat := if i < 2 * A then 1 + i % 2 else 3
def pc (A G S : Nat) (i : Nat) : Nat := if i < 2 * A then i / 2 else (i - 2 * A) / S / G
def pg (A G S : Nat) (i : Nat) : Nat := if i < 2 * A then 0 else (i - 2 * A) / S % G + 1
def pn (A S : Nat) (i : Nat) : Nat := if i < 2 * A then 0 else (i - 2 * A) % S
def pls (A G S : Nat) : Nat → List Value
  | 0 => []
  | k + 1 => pls A G S k ++ [.int .i64 (pk A k), .int .i64 (pc A G S k), .int .i64 (pg A G S k), .int .i64 (pn A S k)]
theorem pls_len (A G S k : Nat) : (pls A G S k).length = k * 4 := by
  induction k with
  | zero => rfl
  | succ k ih => simp [pls, ih]; omega
theorem pls_at (A G S T : Nat) (i : Nat) (hi : i < T) : (pls A G S T)[i * 4]? = some (.int .i64 (pk A i)) ∧ (pls A G S T)[i * 4 + 1]? = some (.int .i64 (pc A G S i)) ∧ (pls A G S T)[i * 4 + 2]? = some (.int .i64 (pg A G S i)) ∧ (pls A G S T)[i * 4 + 3]? = some (.int .i64 (pn A S i)) := by
  induction T with
  | zero => omega
  | succ T ih =>
    have hl := pls_len A G S T
    by_cases h : i < T
    · obtain ⟨h0, h1, h2, h3⟩ := ih h
      simp only [pls]
      refine ⟨?_, ?_, ?_, ?_⟩ <;> rw [List.getElem?_append_left (by omega)] <;> assumption
    · obtain rfl : i = T := by omega
      simp only [pls]
      refine ⟨?_, ?_, ?_, ?_⟩ <;> rw [List.getElem?_append_right (by omega), hl]
      · simp
      · rw [show i * 4 + 1 - i * 4 = 1 by omega]; rfl
      · rw [show i * 4 + 2 - i * 4 = 2 by omega]; rfl
      · rw [show i * 4 + 3 - i * 4 = 3 by omega]; rfl
theorem pls_one (A G S T : Nat) : ∀ u ∈ pls A G S T, u.oneCell' = true := by
  induction T with
  | zero => intro u hu; cases hu
  | succ T ih =>
    intro u hu
    simp only [pls, List.mem_append, List.mem_cons, List.not_mem_nil, or_false] at hu
    rcases hu with h | h | h | h | h
    · exact ih u h
    all_goals (subst h; rfl)
theorem place_even (A G S i : Nat) (h : i < A) : pk A (2 * i) = 1 ∧ pc A G S (2 * i) = i ∧ pg A G S (2 * i) = 0 ∧ pn A S (2 * i) = 0 := by
  unfold pk pc pg pn
  rw [if_pos (by omega), if_pos (by omega), if_pos (by omega), if_pos (by omega)]
  omega
theorem place_odd (A G S i : Nat) (h : i < A) : pk A (2 * i + 1) = 2 ∧ pc A G S (2 * i + 1) = i ∧ pg A G S (2 * i + 1) = 0 ∧ pn A S (2 * i + 1) = 0 := by
  unfold pk pc pg pn
  rw [if_pos (by omega), if_pos (by omega), if_pos (by omega), if_pos (by omega)]
  omega
theorem pls_two (A G S i : Nat) (h : i < A) : pls A G S (2 * (i + 1)) = pls A G S (2 * i) ++ [.int .i64 1, .int .i64 i, .int .i64 0, .int .i64 0, .int .i64 2, .int .i64 i, .int .i64 0, .int .i64 0] := by
  obtain ⟨e0, e1, e2, e3⟩ := place_even A G S i h
  obtain ⟨o0, o1, o2, o3⟩ := place_odd A G S i h
  show pls A G S (2 * i + 1 + 1) = _
  simp only [pls, e0, e1, e2, e3, o0, o1, o2, o3, List.append_assoc]
  rfl
/-- The number of a record's place. -/
def ix (A G S i g n : Nat) : Nat := 2 * A + (i * G + g) * S + n
theorem place_ix (A G S i g n : Nat) (hg : g < G) (hn : n < S) : pk A (ix A G S i g n) = 3 ∧ pc A G S (ix A G S i g n) = i ∧ pg A G S (ix A G S i g n) = g + 1 ∧ pn A S (ix A G S i g n) = n := by
  unfold pk pc pg pn ix
  have hS : 0 < S := by omega
  have hG : 0 < G := by omega
  have e : 2 * A + (i * G + g) * S + n - 2 * A = (i * G + g) * S + n := by omega
  have e1 : ((i * G + g) * S + n) / S = i * G + g := by rw [Nat.add_comm, Nat.add_mul_div_right _ _ hS, Nat.div_eq_of_lt hn, Nat.zero_add]
  have e2 : ((i * G + g) * S + n) % S = n := by rw [Nat.add_comm, Nat.add_mul_mod_self_right, Nat.mod_eq_of_lt hn]
  have e3 : (i * G + g) / G = i := by rw [Nat.add_comm, Nat.add_mul_div_right _ _ hG, Nat.div_eq_of_lt hg, Nat.zero_add]
  have e4 : (i * G + g) % G = g := by rw [Nat.add_comm, Nat.add_mul_mod_self_right, Nat.mod_eq_of_lt hg]
  rw [if_neg (by omega), if_neg (by omega), if_neg (by omega), if_neg (by omega), e, e1, e2, e3, e4]
  exact ⟨rfl, rfl, rfl, rfl⟩
theorem pls_ix (A G S i g n : Nat) (hg : g < G) (hn : n < S) : pls A G S (ix A G S i g n + 1) = pls A G S (ix A G S i g n) ++ [.int .i64 3, .int .i64 i, .int .i64 ((g : Int) + 1), .int .i64 n] := by
  obtain ⟨e0, e1, e2, e3⟩ := place_ix A G S i g n hg hn
  simp only [pls, e0, e1, e2, e3]
  rfl
/-- Where a place is. -/
theorem ix_back (A G S i : Nat) (hG : 0 < G) (hS : 0 < S) (h : ¬ i < 2 * A) : ix A G S (pc A G S i) (pg A G S i - 1) (pn A S i) = i ∧ pg A G S i - 1 < G ∧ pn A S i < S ∧ 1 ≤ pg A G S i := by
  unfold ix pc pg pn
  rw [if_neg h, if_neg h, if_neg h]
  have h1 := Nat.div_add_mod ((i - 2 * A) / S) G
  have h2 := Nat.div_add_mod (i - 2 * A) S
  refine ⟨?_, by rw [Nat.add_sub_cancel]; exact Nat.mod_lt _ hG, Nat.mod_lt _ hS, by omega⟩
  rw [Nat.add_sub_cancel, Nat.mul_comm _ G, h1, Nat.mul_comm _ S]
  omega
theorem pc_lt (A G S i : Nat) (hG : 0 < G) (hS : 0 < S) (h : i < 2 * A + A * (G * S)) : pc A G S i < A := by
  unfold pc
  split
  · omega
  · rw [Nat.div_div_eq_div_mul, Nat.mul_comm S G]
    have e : A * (G * S) = G * S * A := Nat.mul_comm _ _
    exact Nat.div_lt_of_lt_mul (by omega)
theorem ix_lt (A G S i g n : Nat) (hi : i < A) (hg : g < G) (hn : n < S) : ix A G S i g n < 2 * A + A * (G * S) := by
  unfold ix
  have h1 : (i * G + g + 1) * S ≤ A * G * S := Nat.mul_le_mul_right _ (by
    have : (i + 1) * G ≤ A * G := Nat.mul_le_mul_right _ hi
    rw [Nat.add_mul, Nat.one_mul] at this
    omega)
  rw [Nat.add_mul, Nat.one_mul] at h1
  rw [← Nat.mul_assoc]
  omega
end Go.Proofs.YtjkojbaphdlhlaaDoor.Rc

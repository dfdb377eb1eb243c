/-
  A word with another number in a field: the numbers.
-/
import Derived.Test.YtgeognijglahfaaRows
import Derived.WalkKit
import Derived.ProofKit
import Derived.OpenShut
import Derived.ShutString
import Derived.Below
import Derived.Outline
import Derived.WalkLawsBesides
import Derived.WalkSpells
import Derived.Handy
import Derived.Deep.QuietTactic
import Derived.BigQuiet
import Derived.RegionTactic
import Derived.ChangeAlike
import Derived.Lib.Hide
import Derived.Laws.Rows
import Derived.Laws.Tables
import Derived.Laws.CopyOwn
import Derived.Deep.WholeRow
import Derived.Deep.LoopGhost
import Derived.Laws.BitsAllLaws
import Derived.Laws.BitsLemmas
import Derived.IntWalk
import Derived.Test.YtgeognijglahfaaKit
import Derived.Test.YtgeognijglahfaaLay
import Derived.Test.YtgeognijglahfaaAny
import Derived.Test.YtgeognijglahfaaGet
namespace Go.Proofs.Ytgeognijglahfaa
open Go.ChangeShapes Go.WideShapes Go.ChangeAt Go.RowKit
/-- A word with another number in a field. -/
def wthN (x a m v : Nat) : Nat := x % 2 ^ a + v * 2 ^ a + x / 2 ^ (a + m) * 2 ^ (a + m)
theorem wth_bits (x a m v : Nat) (hx : x < 2 ^ 64) (ham : a + m ≤ 64) (hv : v < 2 ^ m) : (x &&& (18446744073709551615 - (2 ^ m - 1) * 2 ^ a)) ||| v * 2 ^ a = wthN x a m v := by
  have h1 : x % 2 ^ a < 2 ^ a := Nat.mod_lt _ (Nat.two_pow_pos _)
  have e : 2 ^ (a + m) = 2 ^ m * 2 ^ a := by rw [Nat.pow_add, Nat.mul_comm]
  have h2 : (v + 1) * 2 ^ a ≤ 2 ^ m * 2 ^ a := Nat.mul_le_mul_right _ hv
  rw [Nat.add_mul, Nat.one_mul] at h2
  have h3 : x % 2 ^ a + v * 2 ^ a < 2 ^ (a + m) := by omega
  unfold wthN
  rw [← or_add _ _ _ h3, ← or_add _ _ _ h1]
  have hm1 : 1 ≤ 2 ^ m := Nat.one_le_two_pow
  have hy : (2 ^ m - 1) * 2 ^ a < 2 ^ 64 := by
    have h4 : (2 ^ m - 1 + 1) * 2 ^ a = 2 ^ (a + m) := by rw [Nat.sub_add_cancel hm1, e]
    rw [Nat.add_mul, Nat.one_mul] at h4
    have h5 : 2 ^ (a + m) ≤ 2 ^ 64 := Nat.pow_le_pow_right (by decide) ham
    have h6 := Nat.two_pow_pos a
    omega
  have e2 : 18446744073709551615 - (2 ^ m - 1) * 2 ^ a = 2 ^ 64 - ((2 ^ m - 1) * 2 ^ a + 1) := by omega
  rw [e2]
  apply Nat.eq_of_testBit_eq
  intro i
  rw [Nat.testBit_or, Nat.testBit_and, Nat.testBit_two_pow_sub_succ hy, Nat.testBit_or, Nat.testBit_or, Nat.testBit_mod_two_pow, Nat.testBit_mul_two_pow, Nat.testBit_mul_two_pow, Nat.testBit_mul_two_pow, Nat.testBit_two_pow_sub_one, Nat.testBit_div_two_pow]
  by_cases hxi : i < 64
  · by_cases c1 : i < a
    · have d1 : ¬ a ≤ i := by omega
      have d2 : ¬ a + m ≤ i := by omega
      simp [hxi, c1, d1, d2]
    · have d1 : a ≤ i := by omega
      by_cases c2 : i < a + m
      · have d2 : ¬ a + m ≤ i := by omega
        have d3 : i - a < m := by omega
        simp [hxi, c1, d1, d2, d3]
      · have d2 : a + m ≤ i := by omega
        have d3 : ¬ i - a < m := by omega
        have d4 : i - (a + m) + (a + m) = i := by omega
        have d5 : v.testBit (i - a) = false := by
          apply Nat.testBit_lt_two_pow
          exact Nat.lt_of_lt_of_le hv (Nat.pow_le_pow_right (by decide) (by omega))
        simp [hxi, c1, d1, d2, d3, d4, d5, Nat.add_comm]
  · have hz : x.testBit i = false := Nat.testBit_lt_two_pow (Nat.lt_of_lt_of_le hx (Nat.pow_le_pow_right (by decide) (by omega)))
    by_cases d1 : a ≤ i
    · have c1 : ¬ i < a := by omega
      have d2 : a + m ≤ i := by omega
      have d4 : i - (a + m) + (a + m) = i := by omega
      have d5 : v.testBit (i - a) = false := by
        apply Nat.testBit_lt_two_pow
        exact Nat.lt_of_lt_of_le hv (Nat.pow_le_pow_right (by decide) (by omega))
      simp [hxi, c1, d1, d2, d4, d5, hz, Nat.add_comm]
    · omega
theorem wth_low (x a m v : Nat) : wthN x a m v % 2 ^ a = x % 2 ^ a := by
  unfold wthN
  rw [show x / 2 ^ (a + m) * 2 ^ (a + m) = (x / 2 ^ (a + m) * 2 ^ m) * 2 ^ a by rw [Nat.mul_assoc, ← Nat.pow_add, Nat.add_comm m a], Nat.add_assoc, ← Nat.add_mul, Nat.add_mul_mod_self_right, Nat.mod_mod]
theorem wth_high (x a m v : Nat) (hv : v < 2 ^ m) : wthN x a m v / 2 ^ (a + m) = x / 2 ^ (a + m) := by
  have h1 : x % 2 ^ a < 2 ^ a := Nat.mod_lt _ (Nat.two_pow_pos _)
  have e : 2 ^ (a + m) = 2 ^ m * 2 ^ a := by rw [Nat.pow_add, Nat.mul_comm]
  have h2 : (v + 1) * 2 ^ a ≤ 2 ^ m * 2 ^ a := Nat.mul_le_mul_right _ hv
  rw [Nat.add_mul, Nat.one_mul] at h2
  have h3 : x % 2 ^ a + v * 2 ^ a < 2 ^ (a + m) := by omega
  unfold wthN
  rw [Nat.add_mul_div_right _ _ (Nat.two_pow_pos _), Nat.div_eq_of_lt h3, Nat.zero_add]
theorem wth_mid (x a m v : Nat) (hv : v < 2 ^ m) : wthN x a m v / 2 ^ a % 2 ^ m = v := by
  have h1 : x % 2 ^ a < 2 ^ a := Nat.mod_lt _ (Nat.two_pow_pos _)
  unfold wthN
  rw [show x / 2 ^ (a + m) * 2 ^ (a + m) = (x / 2 ^ (a + m) * 2 ^ m) * 2 ^ a by rw [Nat.mul_assoc, ← Nat.pow_add, Nat.add_comm m a], Nat.add_assoc, ← Nat.add_mul, Nat.add_mul_div_right _ _ (Nat.two_pow_pos _), Nat.div_eq_of_lt h1, Nat.zero_add, Nat.add_mul_mod_self_right, Nat.mod_eq_of_lt hv]
theorem wth_back (x a m v : Nat) (hv : v < 2 ^ m) : wthN (wthN x a m v) a m (x / 2 ^ a % 2 ^ m) = x := by
  rw [wthN, wth_low, wth_high _ _ _ _ hv]
  have h1 := Nat.div_add_mod x (2 ^ a)
  have h2 := Nat.div_add_mod (x / 2 ^ a) (2 ^ m)
  rw [Nat.div_div_eq_div_mul, ← Nat.pow_add] at h2
  rw [Nat.pow_add] at h2 ⊢
  generalize x / (2 ^ a * 2 ^ m) = hi at *
  generalize x / 2 ^ a % 2 ^ m = f at *
  generalize x % 2 ^ a = lo at *
  have h3 : lo + f * 2 ^ a + hi * (2 ^ a * 2 ^ m) = 2 ^ a * (2 ^ m * hi + f) + lo := by
    rw [Nat.mul_add, Nat.mul_comm f, Nat.mul_comm hi, Nat.mul_assoc]
    omega
  rw [h3, h2, h1]
theorem wth_lt (x a m v : Nat) (hx : x < 2 ^ 64) (ham : a + m ≤ 64) (hv : v < 2 ^ m) : wthN x a m v < 2 ^ 64 := by
  rw [← wth_bits x a m v hx ham hv]
  apply Nat.or_lt_two_pow
  · exact Nat.lt_of_le_of_lt Nat.and_le_left hx
  · have h2 : (v + 1) * 2 ^ a ≤ 2 ^ m * 2 ^ a := Nat.mul_le_mul_right _ hv
    rw [← Nat.pow_add, Nat.add_mul, Nat.one_mul] at h2
    have h5 : 2 ^ (m + a) ≤ 2 ^ 64 := Nat.pow_le_pow_right (by decide) (by omega)
    have h6 := Nat.two_pow_pos a
    omega
theorem mod_div (x b p : Nat) : x / 2 ^ b % 2 ^ p = x % 2 ^ (b + p) / 2 ^ b := by
  rw [Nat.pow_add, Nat.mod_mul_right_div_self]
theorem wth_below (x a m v b p : Nat) (h : b + p ≤ a) : wthN x a m v / 2 ^ b % 2 ^ p = x / 2 ^ b % 2 ^ p := by
  rw [mod_div, mod_div]
  have hd : 2 ^ (b + p) ∣ 2 ^ a := Nat.pow_dvd_pow 2 h
  rw [← Nat.mod_mod_of_dvd (wthN x a m v) hd, wth_low, Nat.mod_mod_of_dvd _ hd]
theorem wth_above (x a m v b p : Nat) (h : a + m ≤ b) (hv : v < 2 ^ m) : wthN x a m v / 2 ^ b % 2 ^ p = x / 2 ^ b % 2 ^ p := by
  have e : 2 ^ b = 2 ^ (a + m) * 2 ^ (b - (a + m)) := by rw [← Nat.pow_add]; congr 1; omega
  rw [e, ← Nat.div_div_eq_div_mul, ← Nat.div_div_eq_div_mul, wth_high _ _ _ _ hv]
theorem steps_le {n : Nat} {s : Nat → Int} (hS : Steps n s) (i j : Nat) (hj : j ≤ n) (h : i ≤ j) : s i ≤ s j := by
  induction j with
  | zero => have : i = 0 := by omega
            subst this; exact Int.le_refl _
  | succ j ih =>
    rcases Nat.lt_or_ge i (j + 1) with h1 | h1
    · have h2 := ih (by omega) (by omega)
      have h3 := (hS.2.2 j (by omega)).2.1
      omega
    · have : i = j + 1 := by omega
      subst this; exact Int.le_refl _
def wth (s : Nat → Int) (x i v : Nat) : Nat := wthN x (s i).toNat (s (i + 1) - s i).toNat v
theorem fld_wth {n : Nat} {s : Nat → Int} (hS : Steps n s) (x i v k : Nat) (hi : i < n) (hk : k < n) (hv : v < 2 ^ (s (i + 1) - s i).toNat) : fld s (wth s x i v) k = if k = i then (v : Int) else fld s x k := by
  obtain ⟨s0, s1, s2, s3⟩ := hS.2.2 i hi
  obtain ⟨t0, t1, t2, t3⟩ := hS.2.2 k hk
  by_cases h : k = i
  · subst h
    rw [if_pos rfl]
    unfold fld wth
    rw [wth_mid _ _ _ _ hv]
  · rw [if_neg h]
    unfold fld wth
    congr 1
    rcases Nat.lt_or_ge k i with h1 | h1
    · have h2 := steps_le hS (k + 1) i (by omega) h1
      exact wth_below _ _ _ _ _ _ (by omega)
    · have h2 := steps_le hS (i + 1) k (by omega) (by omega)
      exact wth_above _ _ _ _ _ _ (by omega) hv
theorem wth_wth {n : Nat} {s : Nat → Int} (x i v : Nat) (hv : v < 2 ^ (s (i + 1) - s i).toNat) : wth s (wth s x i v) i (fld s x i).toNat = x := by
  unfold wth fld
  rw [Int.toNat_natCast]
  exact wth_back _ _ _ _ hv
end Go.Proofs.Ytgeognijglahfaa

/-
  field.Mid of two prices is their mean, rounded down: and the plain arithmetic behind it.
-/
import Derived.Test.YtafignfoejefjaaRows
import Derived.WalkKit
import Derived.ProofKit
import Derived.OpenShut
import Derived.ShutString
import Derived.Below
import Derived.Outline
import Derived.WalkLawsBesides
import Derived.WalkSpells
import Derived.Handy
import Derived.Deep.QuietTactic
import Derived.BigQuiet
import Derived.RegionTactic
import Derived.ChangeAlike
import Derived.Lib.Hide
import Derived.Laws.BitsAllLaws
import Derived.Laws.BitsLemmas
namespace Go.Proofs.Ytafignfoejefjaa
theorem add_and_xor (n : Nat) : ∀ a b : Nat, a < 2 ^ n → b < 2 ^ n → a + b = 2 * (a &&& b) + (a ^^^ b) := by
  induction n with
  | zero =>
    intro a b ha hb
    have h1 : a = 0 := by simpa using ha
    have h2 : b = 0 := by simpa using hb
    subst h1; subst h2; rfl
  | succ n ih =>
    intro a b ha hb
    have h := ih (a / 2) (b / 2) (by rw [Nat.pow_succ] at ha; omega) (by rw [Nat.pow_succ] at hb; omega)
    have e1 : (a &&& b) / 2 = a / 2 &&& b / 2 := Nat.and_div_two
    have e2 : (a ^^^ b) / 2 = a / 2 ^^^ b / 2 := Nat.xor_div_two
    have e3 : (a &&& b) % 2 = (a % 2) &&& (b % 2) := Nat.and_mod_two_pow (n := 1)
    have e4 : (a ^^^ b) % 2 = (a % 2) ^^^ (b % 2) := Nat.xor_mod_two_pow (n := 1)
    have e5 : a % 2 + b % 2 = 2 * ((a % 2) &&& (b % 2)) + ((a % 2) ^^^ (b % 2)) := by
      rcases Nat.mod_two_eq_zero_or_one a with ha2 | ha2 <;> rcases Nat.mod_two_eq_zero_or_one b with hb2 | hb2 <;> rw [ha2, hb2] <;> rfl
    rw [← e3, ← e4] at e5
    rw [← e1, ← e2] at h
    clear e1 e2 e3 e4 ih
    generalize a &&& b = p at *
    generalize a ^^^ b = q at *
    omega
theorem mid_nat (a b : Nat) (ha : a < 16384) (hb : b < 16384) : (a &&& b) + (a ^^^ b) / 2 = (a + b) / 2 := by
  have := add_and_xor 14 a b ha hb
  omega
theorem ofInt_i64 (a : Nat) (ha : a < 9223372036854775808) : (BitVec.ofInt 64 (a : Int)).toNat = a := by
  rw [BitVec.ofInt_natCast, BitVec.toNat_ofNat]; exact Nat.mod_eq_of_lt (by omega)
theorem i64_and_nat (a b : Nat) (ha : a < 9223372036854775808) (hb : b < 9223372036854775808) : bits .and .i64 (a : Int) (b : Int) = ((a &&& b : Nat) : Int) := by
  have hx : a &&& b < 2 ^ 63 := Nat.and_lt_two_pow _ (by omega)
  show IntKind.i64.wrap ((BitVec.ofInt 64 (a : Int) &&& BitVec.ofInt 64 (b : Int)).toNat : Int) = _
  rw [BitVec.toNat_and, ofInt_i64 a ha, ofInt_i64 b hb, IntKind.wrap_i64]
  omega
theorem i64_xor_nat (a b : Nat) (ha : a < 9223372036854775808) (hb : b < 9223372036854775808) : bits .xor .i64 (a : Int) (b : Int) = ((a ^^^ b : Nat) : Int) := by
  have hx : a ^^^ b < 2 ^ 63 := Nat.xor_lt_two_pow (by omega) (by omega)
  show IntKind.i64.wrap ((BitVec.ofInt 64 (a : Int) ^^^ BitVec.ofInt 64 (b : Int)).toNat : Int) = _
  rw [BitVec.toNat_xor, ofInt_i64 a ha, ofInt_i64 b hb, IntKind.wrap_i64]
  omega
theorem mid_int (a b : Int) (ha : 0 ≤ a) (ha1 : a < 16384) (hb : 0 ≤ b) (hb1 : b < 16384) : bits .and .i64 a b + bits .xor .i64 a b / 2 = (a + b) / 2 := by
  obtain ⟨x, rfl⟩ := Int.eq_ofNat_of_zero_le ha
  obtain ⟨y, rfl⟩ := Int.eq_ofNat_of_zero_le hb
  rw [i64_and_nat x y (by omega) (by omega), i64_xor_nat x y (by omega) (by omega)]
  have := mid_nat x y (by omega) (by omega)
  omega
open Go.ChangeShapes Go.WideShapes Go.ChangeAt Go.RowKit
theorem mid23 (a b : Int) (w : World) (ha : 0 ≤ a) (ha1 : a < 16384) (hb : 0 ≤ b) (hb1 : b < 16384) : Calls Try.prog 47 #[.int .i64 a, .int .i64 b] w fun e w' => e = .returned (.int .i64 ((a + b) / 2)) ∧ w = w' := by
  have hm : wrap64 (bits .and .i64 a b + bits .xor .i64 a b / 2) = (a + b) / 2 := by
    rw [mid_int a b ha ha1 hb hb1]
    unfold wrap64
    omega
  have HM := Lib.hid hm
  clear hm
  go_enter Try.func47, Try.ntmps47
  go_wp2
  go_ret
  exact ⟨by rw [← HM.out]; rfl, rfl⟩
end Go.Proofs.Ytafignfoejefjaa

/-
  The document's bits: bit, Get, Pack.
-/
import Derived.Test.YtjkojbaphdlhlaaDoorRows
import Derived.WalkKit
import Derived.ProofKit
import Derived.OpenShut
import Derived.ShutString
import Derived.Below
import Derived.Outline
import Derived.WalkLawsBesides
import Derived.WalkSpells
import Derived.Handy
import Derived.Deep.QuietTactic
import Derived.BigQuiet
import Derived.RegionTactic
import Derived.ChangeAlike
import Derived.Lib.Hide
import Derived.Laws.Rows
import Derived.Laws.Tables
import Derived.Laws.CopyOwn
import Derived.Deep.WholeRow
import Derived.Deep.LoopGhost
import Derived.Laws.BitsAllLaws
import Derived.Laws.BitsLemmas
import Derived.IntWalk
import Derived.Test.YtjkojbaphdlhlaaDoorKit
import Derived.Test.YtjkojbaphdlhlaaDoorFpLay
import Derived.Test.YtjkojbaphdlhlaaDoorFpAny
import Derived.Test.YtjkojbaphdlhlaaDoorFpGet
namespace Go.Proofs.YtjkojbaphdlhlaaDoor.Fp
set_option linter.unusedVariables false
set_option linter.unusedSimpArgs false
open Go.ChangeShapes Go.WideShapes Go.ChangeAt Go.RowKit
theorem ret_i64 {a b : Int} (h : a = b) : Ending.returned (.int .i64 a) = .returned (.int .i64 b) := by rw [h]
theorem val_u64 {a b : Int} (h : a = b) : Value.int .u64 a = .int .u64 b := by rw [h]
theorem val_i64 {a b : Int} (h : a = b) : Value.int .i64 a = .int .i64 b := by rw [h]
theorem div_step (x k : Nat) : ((x / 2 ^ k : Nat) : Int) / 2 = ((x / 2 ^ (k + 1) : Nat) : Int) := by
  rw [Nat.pow_succ, ← Nat.div_div_eq_div_mul]; rfl
set_option maxHeartbeats 1000000 in
theorem bit_is (x n : Nat) (hx : x < 18446744073709551616) (hn : n ≤ 64) (w : World) :
    Calls Tryd.prog 53 #[.int .u64 (x : Int), .int .i64 (n : Int)] w fun e w' => e = .returned (.int .i64 ((x / 2 ^ n % 2 : Nat) : Int)) ∧ w = w' := by
  go_enter Tryd.func53, Tryd.ntmps53
  go_wp2
  go_loop [0, 5] (fun y i => ∃ k : Nat, k ≤ n ∧ i = .int .i64 k ∧ y = .int .u64 ((x / 2 ^ k : Nat) : Int)) (fun _ i => n - (intOf i).toNat)
  case atStart => exact ⟨0, Nat.zero_le _, rfl, by simp⟩
  case round =>
    obtain ⟨k, hk, rfl, rfl⟩ := hrel
    have HD := Lib.hid (div_step x k)
    have hb : x / 2 ^ k ≤ x := Nat.div_le_self _ _
    have hy0 : (0 : Int) ≤ ((x / 2 ^ k : Nat) : Int) := Int.natCast_nonneg _
    have hy1 : ((x / 2 ^ k : Nat) : Int) ≤ 18446744073709551615 := by omega
    by_cases hlt : k < n
    · generalize ((x / 2 ^ k : Nat) : Int) = y at *
      go_wp2
      go_round
      case rel => exact ⟨k + 1, by omega, by go_num, val_u64 HD.out⟩
      case measure => simp [intOf]; omega
    · obtain rfl : k = n := by omega
      have HM := Lib.hid (show ((x : Int) / 2 ^ k % 2) = ((x / 2 ^ k : Nat) : Int) % 2 from by simp)
      generalize ((x / 2 ^ k : Nat) : Int) = y at *
      go_wp2
      go_ret
      exact ⟨ret_i64 (by rw [HM.out]), rfl⟩
/-- The bits of a field from some place on. -/
theorem get_step (x a m j : Nat) (hj : j < m) : x / 2 ^ (a + (j + 1)) % 2 ^ (m - (j + 1)) * 2 + x / 2 ^ (a + j) % 2 = x / 2 ^ (a + j) % 2 ^ (m - j) := by
  have e : m - j = (m - (j + 1)) + 1 := by omega
  rw [e, Nat.pow_succ', Nat.mod_mul, Nat.add_comm, Nat.mul_comm (x / 2 ^ (a + (j + 1)) % 2 ^ (m - (j + 1))) 2]
  rw [Nat.div_div_eq_div_mul, ← Nat.pow_succ]
  rfl
set_option maxHeartbeats 4000000 in
theorem rget_is {n : Nat} {s ws : Nat → Int} (hS : Steps n s) (hw : ∀ k, k < n → s (k + 1) = s k + ws k) (A : Option Addr) (cap : Nat) (x i : Nat) (hx : x < 18446744073709551616) (hi : i < n) (w : World) (hR : RowI w A n ws) :
    Calls Tryd.prog 17 #[.slice A n cap, .int .u64 (x : Int), .int .i64 (i : Int)] w fun e w' => e = .returned (.int .i64 (fld s x i)) ∧ w = w' := by
  have hn := hS.2.1
  have HS := Lib.hid hS
  have HW := Lib.hid hw
  have HR := Lib.hid hR
  clear hS hw hR
  go_enter Tryd.func17, Tryd.ntmps17
  go_wp2_with fail
  go_loop [7, 8] (fun l c => ∃ k : Nat, k ≤ i ∧ c = .int .i64 k ∧ l = .int .i64 (s k)) (fun _ c => i - (intOf c).toNat)
  case atStart => exact ⟨0, Nat.zero_le _, rfl, by rw [HS.out.1]⟩
  case round =>
    obtain ⟨k, hk, rfl, rfl⟩ := hrel
    by_cases hlt : k < i
    · obtain ⟨g, off, rfl, hg, hz, z0, z1⟩ := HR.out k (by omega)
      obtain ⟨s0, s1, s2, s3⟩ := HS.out.2.2 k (by omega)
      have hwk := HW.out k (by omega)
      have q1 : 1 ≤ ws k := by omega
      have q2 : ws k ≤ 32 := by omega
      have q3 : s k ≤ 64 := by omega
      have HWK := Lib.hid hwk
      clear hwk s1 s2 s3
      go_wp2_with fail
      go_round
      case rel => exact ⟨k + 1, by omega, by go_num, by rw [HWK.out]⟩
      case measure => simp [intOf]; omega
    · obtain rfl : k = i := by omega
      obtain ⟨g, off, rfl, hg, hz, z0, z1⟩ := HR.out k (by omega)
      obtain ⟨s0, s1, s2, s3⟩ := HS.out.2.2 k (by omega)
      have hwk := HW.out k (by omega)
      obtain ⟨a, ha⟩ : ∃ a : Nat, s k = a := ⟨(s k).toNat, by omega⟩
      obtain ⟨m, hm⟩ : ∃ m : Nat, ws k = m := ⟨(ws k).toNat, by omega⟩
      have hm1 : 1 ≤ m := by omega
      have hm2 : m ≤ 32 := by omega
      have ha2 : a + m ≤ 64 := by omega
      have HF := Lib.hid (show fld s x k = ((x / 2 ^ a % 2 ^ m : Nat) : Int) from by unfold fld; rw [show (s (k + 1) - s k).toNat = m by omega, ha, Int.toNat_natCast])
      rw [ha]
      rw [hm] at hz
      clear hwk s0 s1 s2 s3 ha hm z0 z1
      have e0 : ((m : Nat) : Int) - 1 = ((m - 1 : Nat) : Int) := by omega
      go_wp2_with fail
      go_loop [9, 10] (fun r c => ∃ j : Nat, j ≤ m ∧ c = .int .i64 ((j : Int) - 1) ∧ r = .int .i64 ((x / 2 ^ (a + j) % 2 ^ (m - j) : Nat) : Int)) (fun _ c => (intOf c + 1).toNat)
      case atStart => exact ⟨m, Nat.le_refl _, by rw [e0], by rw [Nat.sub_self, Nat.pow_zero, Nat.mod_one]; rfl⟩
      case round =>
        clear e0
        obtain ⟨j, hj, rfl, rfl⟩ := hrel
        have hr1 : x / 2 ^ (a + j) % 2 ^ (m - j) < 2 ^ (m - j) := Nat.mod_lt _ (Nat.two_pow_pos _)
        have hr2 : 2 ^ (m - j) ≤ 2 ^ 32 := Nat.pow_le_pow_right (by decide) (by omega)
        by_cases h0 : j = 0
        · subst h0
          have HE := Lib.hid (show fld s x k = ((x / 2 ^ (a + 0) % 2 ^ (m - 0) : Nat) : Int) from HF.out)
          generalize (x / 2 ^ (a + 0) % 2 ^ (m - 0)) = r at *
          have ez : (((0 : Nat) : Int) - 1) = -1 := rfl
          rw [ez]
          clear ez
          go_wp2
          go_ret
          exact ⟨ret_i64 HE.out.symm, rfl⟩
        · obtain ⟨j, rfl⟩ : ∃ i, j = i + 1 := ⟨j - 1, by omega⟩
          have ez : (((j + 1 : Nat) : Int) - 1) = (j : Int) := by omega
          rw [ez]
          have HG := Lib.hid (get_step x a m j (by omega))
          have hb := fun W => bit_is x (a + j) hx (by omega) W
          simp only [Int.natCast_add] at hb
          have hd1 : x / 2 ^ (a + j) % 2 < 2 := Nat.mod_lt _ (by decide)
          generalize (x / 2 ^ (a + j) % 2) = d at *
          generalize (x / 2 ^ (a + (j + 1)) % 2 ^ (m - (j + 1))) = r at *
          have HB := Lib.hid hb
          have hr3 : (r : Int) ≤ 4294967296 := by omega
          have hr4 : (0 : Int) ≤ (r : Int) := by omega
          have hd2 : (d : Int) ≤ 1 := by omega
          have hd3 : (0 : Int) ≤ (d : Int) := by omega
          have hj1 : (0 : Int) ≤ (j : Int) := by omega
          clear hb ez hr1 hr2 hd1 h0
          go_wp2_with fail
          refine (HB.out _).mono ?_
          rintro e w1 ⟨rfl, rfl⟩
          go_wp2_with fail
          go_round
          case rel => exact ⟨j, by omega, rfl, val_i64 (by rw [← HG.out]; omega)⟩
          case measure => (simp [intOf]; try omega)
set_option maxHeartbeats 1000000 in
theorem rpack_len (A B : Option Addr) (n m c d : Nat) (w : World) (hm : m ≠ n) :
    Calls Tryd.prog 14 #[.slice A n c, .slice B m d] w fun e w' => e = .returned (.tuple #[.int .u64 0, .int .i64 1, .int .i64 0]) ∧ w = w' := by
  have hd : ((m : Int) != (n : Int)) = true := by rw [bne_iff_ne]; omega
  go_enter Tryd.func14, Tryd.ntmps14
  go_wp2
  go_ret3
  exact ⟨rfl, rfl⟩
theorem half_step (v k : Nat) : ((v / 2 ^ k : Nat) : Int) / 2 = ((v / 2 ^ (k + 1) : Nat) : Int) := div_step v k
theorem fits_iff (v : Int) (m : Nat) (h : 0 ≤ v) : v < 2 ^ m ↔ v.toNat / 2 ^ m = 0 := by
  have e : ((2 ^ m : Nat) : Int) = (2 : Int) ^ m := by simp
  rw [Nat.div_eq_zero_iff]
  have hp := Nat.two_pow_pos m
  omega
set_option maxHeartbeats 4000000 in
theorem rpack_bad {n : Nat} {s ws z : Nat → Int} (hS : Steps n s) (hw : ∀ k, k < n → s (k + 1) = s k + ws k) (A B : Option Addr) (c d : Nat) (w : World) (hR : RowI w A n ws) (hZ : RowI w B n z) (j : Nat) (hj : j < n) (hv : ∀ k, k < j → 0 ≤ z k ∧ z k < 2 ^ (s (k + 1) - s k).toNat) (hb : ¬ (0 ≤ z j ∧ z j < 2 ^ (s (j + 1) - s j).toNat)) :
    Calls Tryd.prog 14 #[.slice A n c, .slice B n d] w fun e w' => e = .returned (.tuple #[.int .u64 0, .int .i64 5, .int .i64 j]) ∧ w = w' := by
  have hn := hS.2.1
  have HS := Lib.hid hS
  have HW := Lib.hid hw
  have HR := Lib.hid hR
  have HZ := Lib.hid hZ
  have HV := Lib.hid hv
  have HBD := Lib.hid hb
  clear hS hw hR hZ hv hb
  go_enter Tryd.func14, Tryd.ntmps14
  go_wp2_with fail
  go_loop [7, 8, 9] (fun c _ _ => ∃ k : Nat, k ≤ j ∧ c = .int .i64 k) (fun c _ _ => n - (intOf c).toNat)
  case atStart => exact ⟨0, Nat.zero_le _, rfl⟩
  case round =>
    obtain ⟨k, hk, rfl⟩ := hrel
    have hlt : k < n := by omega
    obtain ⟨g, off, rfl, hg, hz, z0, z1⟩ := HZ.out k hlt
    obtain ⟨g2, off2, rfl, hg2, hz2, y0, y1⟩ := HR.out k hlt
    obtain ⟨s0, s1, s2, s3⟩ := HS.out.2.2 k hlt
    have hwk := HW.out k hlt
    obtain ⟨m, hm⟩ : ∃ m : Nat, ws k = m := ⟨(ws k).toNat, by omega⟩
    have hm1 : 1 ≤ m := by omega
    have hm2 : m ≤ 32 := by omega
    have em : (s (k + 1) - s k).toNat = m := by omega
    have HEM := Lib.hid em
    rw [hm] at hz2
    clear hwk s0 s1 s2 s3 y0 y1 hm em
    by_cases hneg : z k < 0
    · have hkj : k = j := by
        rcases Nat.lt_or_ge k j with h | h
        · have := (HV.out k h).1; omega
        · omega
      subst hkj
      go_wp2
      go_ret3
      exact ⟨rfl, rfl⟩
    · have hz3 : 0 ≤ z k := by omega
      obtain ⟨v, hv⟩ : ∃ v : Nat, z k = v := ⟨(z k).toNat, by omega⟩
      have HVK := Lib.hid hv
      rw [hv] at hz z1
      clear hv z0 hneg hz3
      have hv0 : (0 : Int) ≤ (v : Int) := by omega
      go_wp2_with fail
      go_loop [8, 9] (fun y i => ∃ t : Nat, t ≤ m ∧ i = .int .i64 t ∧ y = .int .i64 ((v / 2 ^ t : Nat) : Int)) (fun _ i => m - (intOf i).toNat)
      case atStart => exact ⟨0, Nat.zero_le _, rfl, by simp⟩
      case round =>
        obtain ⟨t, ht, rfl, rfl⟩ := hrel
        have HD := Lib.hid (div_step v t)
        have hb : v / 2 ^ t ≤ v := Nat.div_le_self _ _
        have hy0 : (0 : Int) ≤ ((v / 2 ^ t : Nat) : Int) := Int.natCast_nonneg _
        have hy1 : ((v / 2 ^ t : Nat) : Int) ≤ 9223372036854775807 := by omega
        by_cases htm : t < m
        · generalize ((v / 2 ^ t : Nat) : Int) = y at *
          go_wp2
          go_round
          case rel => exact ⟨t + 1, by omega, by go_num, val_i64 HD.out⟩
          case measure => simp [intOf]; omega
        · obtain rfl : t = m := by omega
          by_cases hkj : k < j
          · have h0 : v / 2 ^ t = 0 := by
              have h1 := (HV.out k hkj).2
              rw [HEM.out, fits_iff _ _ (by rw [HVK.out]; omega), HVK.out, Int.toNat_natCast] at h1
              exact h1
            rw [h0]
            clear h0 HD hb hy0 hy1
            go_wp2
            go_round
            case rel => exact ⟨k + 1, by omega, by go_num⟩
            case measure => simp [intOf]; omega
          · obtain rfl : k = j := by omega
            have h0 : (0 : Int) < ((v / 2 ^ t : Nat) : Int) := by
              have h1 := HBD.out
              rw [HEM.out, HVK.out] at h1
              have h2 : ¬ ((v : Int) < 2 ^ t) := fun h => h1 ⟨by omega, h⟩
              rw [fits_iff _ _ (by omega), Int.toNat_natCast] at h2
              omega
            generalize ((v / 2 ^ t : Nat) : Int) = y at *
            clear HD hb
            go_wp2
            go_ret3
            exact ⟨rfl, rfl⟩
/-- What is behind a place of a word. -/
theorem tail_step (W P Q m x zk wk wk1 : Nat) (h1 : W = wk1 + x * Q) (h2 : wk1 = wk + zk * P) (h3 : Q = 2 ^ m * P) : W = wk + (x * 2 ^ m + zk) * P := by
  subst h1 h2 h3
  rw [Nat.add_mul, Nat.mul_assoc]
  omega
set_option maxHeartbeats 4000000 in
theorem rpack_ok {n : Nat} {s ws z : Nat → Int} (hS : Steps n s) (hw : ∀ k, k < n → s (k + 1) = s k + ws k) (A B : Option Addr) (c d : Nat) (w : World) (hR : RowI w A n ws) (hZ : RowI w B n z) (hv : ∀ k, k < n → 0 ≤ z k ∧ z k < 2 ^ (s (k + 1) - s k).toNat) :
    Calls Tryd.prog 14 #[.slice A n c, .slice B n d] w fun e w' => e = .returned (.tuple #[.int .u64 (word s z n), .int .i64 0, .int .i64 0]) ∧ w = w' := by
  have hn := hS.2.1
  have HS := Lib.hid hS
  have HW := Lib.hid hw
  have HR := Lib.hid hR
  have HZ := Lib.hid hZ
  have HV := Lib.hid hv
  clear hS hw hR hZ hv
  go_enter Tryd.func14, Tryd.ntmps14
  go_wp2_with fail
  go_loop [7, 8, 9] (fun c _ _ => ∃ k : Nat, k ≤ n ∧ c = .int .i64 k) (fun c _ _ => n - (intOf c).toNat)
  case atStart => exact ⟨0, Nat.zero_le _, rfl⟩
  case round =>
    obtain ⟨k, hk, rfl⟩ := hrel
    by_cases hlt : k < n
    · obtain ⟨g, off, rfl, hg, hz, z0, z1⟩ := HZ.out k hlt
      obtain ⟨g2, off2, rfl, hg2, hz2, y0, y1⟩ := HR.out k hlt
      obtain ⟨s0, s1, s2, s3⟩ := HS.out.2.2 k hlt
      have hwk := HW.out k hlt
      obtain ⟨m, hm⟩ : ∃ m : Nat, ws k = m := ⟨(ws k).toNat, by omega⟩
      have hm1 : 1 ≤ m := by omega
      have hm2 : m ≤ 32 := by omega
      have em : (s (k + 1) - s k).toNat = m := by omega
      have HEM := Lib.hid em
      rw [hm] at hz2
      have hz3 := (HV.out k hlt).1
      clear hwk s0 s1 s2 s3 y0 y1 hm em
      obtain ⟨v, hv⟩ : ∃ v : Nat, z k = v := ⟨(z k).toNat, by omega⟩
      have HVK := Lib.hid hv
      rw [hv] at hz z1
      clear hv z0 hz3
      have hv0 : (0 : Int) ≤ (v : Int) := by omega
      go_wp2_with fail
      go_loop [8, 9] (fun y i => ∃ t : Nat, t ≤ m ∧ i = .int .i64 t ∧ y = .int .i64 ((v / 2 ^ t : Nat) : Int)) (fun _ i => m - (intOf i).toNat)
      case atStart => exact ⟨0, Nat.zero_le _, rfl, by simp⟩
      case round =>
        obtain ⟨t, ht, rfl, rfl⟩ := hrel
        have HD := Lib.hid (div_step v t)
        have hb : v / 2 ^ t ≤ v := Nat.div_le_self _ _
        have hy0 : (0 : Int) ≤ ((v / 2 ^ t : Nat) : Int) := Int.natCast_nonneg _
        have hy1 : ((v / 2 ^ t : Nat) : Int) ≤ 9223372036854775807 := by omega
        by_cases htm : t < m
        · generalize ((v / 2 ^ t : Nat) : Int) = y at *
          go_wp2
          go_round
          case rel => exact ⟨t + 1, by omega, by go_num, val_i64 HD.out⟩
          case measure => simp [intOf]; omega
        · obtain rfl : t = m := by omega
          have h0 : v / 2 ^ t = 0 := by
            have h1 := (HV.out k hlt).2
            rw [HEM.out, fits_iff _ _ (by rw [HVK.out]; omega), HVK.out, Int.toNat_natCast] at h1
            exact h1
          rw [h0]
          clear h0 HD hb hy0 hy1
          go_wp2
          go_round
          case rel => exact ⟨k + 1, by omega, by go_num⟩
          case measure => simp [intOf]; omega
    · obtain rfl : k = n := by omega
      have HL := Lib.hid (word_lt HS.out HV.out)
      have hl : word s z k < 18446744073709551616 := by
        have h1 := HL.out k (Nat.le_refl _)
        have h2 : 2 ^ (s k).toNat ≤ 2 ^ 64 := Nat.pow_le_pow_right (by decide) (by
          rcases Nat.eq_zero_or_pos k with h | h
          · rw [h, HS.out.1]; decide
          · have := (HS.out.2.2 (k - 1) (by omega)).2.2.1
            rw [show k - 1 + 1 = k by omega] at this
            omega)
        omega
      have hk0 : (0 : Int) ≤ (k : Int) := by omega
      go_wp2_with fail
      go_loop [10, 11, 12] (fun x i _ => ∃ (t x' : Nat), t ≤ k ∧ i = .int .i64 ((t : Int) - 1) ∧ x = .int .u64 (x' : Int) ∧ word s z k = word s z t + x' * 2 ^ (s t).toNat) (fun _ i _ => (intOf i + 1).toNat)
      case atStart => exact ⟨k, 0, Nat.le_refl _, rfl, rfl, by simp⟩
      case round =>
        obtain ⟨t, x, ht, rfl, rfl, hx⟩ := hrel
        by_cases h0 : t = 0
        · subst h0
          have ex : x = word s z k := by
            have h1 : word s z 0 = 0 := rfl
            rw [h1, HS.out.1] at hx
            simp at hx
            exact hx.symm
          have EX := Lib.hid ex
          have ez : (((0 : Nat) : Int) - 1) = -1 := rfl
          rw [ez]
          clear ez ex hx
          go_wp2
          go_ret3
          exact ⟨by have e := EX.out; subst e; rfl, rfl⟩
        · obtain ⟨t, rfl⟩ : ∃ i, t = i + 1 := ⟨t - 1, by omega⟩
          have ez : (((t + 1 : Nat) : Int) - 1) = (t : Int) := by omega
          rw [ez]
          have htk : t < k := by omega
          obtain ⟨g, off, rfl, hg, hz, z0, z1⟩ := HZ.out t htk
          obtain ⟨g2, off2, rfl, hg2, hz2, y0, y1⟩ := HR.out t htk
          obtain ⟨s0, s1, s2, s3⟩ := HS.out.2.2 t htk
          have hwk := HW.out t htk
          obtain ⟨m, hm⟩ : ∃ m : Nat, ws t = m := ⟨(ws t).toNat, by omega⟩
          have hm1 : 1 ≤ m := by omega
          have hm2 : m ≤ 32 := by omega
          obtain ⟨a, ha⟩ : ∃ a : Nat, s t = a := ⟨(s t).toNat, by omega⟩
          have hz3 := HV.out t htk
          obtain ⟨v, hv⟩ : ∃ v : Nat, z t = v := ⟨(z t).toNat, by omega⟩
          have hq : 2 ^ (s (t + 1)).toNat = 2 ^ m * 2 ^ a := by rw [← Nat.pow_add]; congr 1; omega
          have hword : word s z (t + 1) = word s z t + v * 2 ^ a := by show word s z t + (z t).toNat * 2 ^ (s t).toNat = _; rw [hv, ha]; rfl
          have hfin := tail_step _ _ _ m x v _ _ hx hword hq
          have hpa := Nat.two_pow_pos a
          have hmx : x * 2 ^ m + v < 18446744073709551616 := by
            have h1 : x * 2 ^ m + v ≤ (x * 2 ^ m + v) * 2 ^ a := Nat.le_mul_of_pos_right _ hpa
            omega
          have HFIN := Lib.hid (show word s z k = word s z t + (x * 2 ^ m + v) * 2 ^ (s t).toNat from by rw [ha]; exact hfin)
          rw [hm] at hz2
          rw [hv] at hz z1
          have hv0 : (0 : Int) ≤ (v : Int) := by omega
          have ht0 : (0 : Int) ≤ (t : Int) := by omega
          clear ez hx hword hq hfin hz3 s0 s1 s2 s3 y0 y1 hwk ha hm hv z0 h0 hpa
          go_wp2_with fail
          go_loop [10, 12] (fun y i => ∃ q : Nat, q ≤ m ∧ i = .int .i64 q ∧ y = .int .u64 ((x * 2 ^ q : Nat) : Int)) (fun _ i => m - (intOf i).toNat)
          case atStart => exact ⟨0, Nat.zero_le _, rfl, by simp⟩
          case round =>
            obtain ⟨q, hq, rfl, rfl⟩ := hrel
            have hqm : x * 2 ^ q ≤ x * 2 ^ m := Nat.mul_le_mul_left _ (Nat.pow_le_pow_right (by decide) hq)
            by_cases hqlt : q < m
            · have hdb : x * 2 ^ q * 2 = x * 2 ^ (q + 1) := by rw [Nat.mul_assoc, ← Nat.pow_succ]
              have hdl : x * 2 ^ (q + 1) ≤ x * 2 ^ m := Nat.mul_le_mul_left _ (Nat.pow_le_pow_right (by decide) (by omega))
              have HDB := Lib.hid (show ((x * 2 ^ q : Nat) : Int) * 2 = ((x * 2 ^ (q + 1) : Nat) : Int) from by rw [← hdb]; rfl)
              have hyt : x * 2 ^ q * 2 < 18446744073709551616 := by omega
              generalize x * 2 ^ q = y at *
              have hy : (y : Int) * 2 ≤ 18446744073709551615 := by omega
              have hy0 : (0 : Int) ≤ (y : Int) := by omega
              clear hyt
              clear hdb hdl hqm
              go_wp2
              go_round
              case rel => exact ⟨q + 1, by omega, by go_num, val_u64 HDB.out⟩
              case measure => simp [intOf]; omega
            · obtain rfl : q = m := by omega
              have HFF := Lib.hid HFIN.out
              generalize hy : x * 2 ^ q = y at *
              have hy1 : (y : Int) + (v : Int) ≤ 18446744073709551615 := by omega
              have hy0 : (0 : Int) ≤ (y : Int) := by omega
              have HY := Lib.hid hy
              clear hqm hy
              go_wp2
              go_round
              case rel => exact ⟨t, y + v, by omega, rfl, val_u64 (by omega), HFF.out⟩
              case measure => (simp [intOf]; try omega)
end Go.Proofs.YtjkojbaphdlhlaaDoor.Fp

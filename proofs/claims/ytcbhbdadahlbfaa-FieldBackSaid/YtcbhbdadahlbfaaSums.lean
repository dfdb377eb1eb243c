/-
  Contracts of field.Add, of the document's Add, of field.Mid, and of the awake of layer 2.
-/
import Derived.Test.YtcbhbdadahlbfaaRows
import Derived.WalkKit
import Derived.ProofKit
import Derived.OpenShut
import Derived.ShutString
import Derived.Below
import Derived.Outline
import Derived.WalkLawsBesides
import Derived.WalkSpells
import Derived.Handy
import Derived.Deep.QuietTactic
import Derived.BigQuiet
import Derived.RegionTactic
import Derived.ChangeAlike
import Derived.Lib.Hide
import Derived.Laws.Rows
import Derived.Laws.Tables
import Derived.Laws.CopyOwn
import Derived.Deep.WholeRow
import Derived.Deep.LoopGhost
import Derived.Laws.BitsAllLaws
import Derived.Laws.BitsLemmas
import Derived.IntWalk
import Derived.Test.YtcbhbdadahlbfaaKit
import Derived.Test.YtcbhbdadahlbfaaLay
namespace Go.Proofs.Ytcbhbdadahlbfaa
open Go.ChangeShapes Go.WideShapes Go.ChangeAt Go.RowKit

def RowU (w : World) (A : Option Addr) (m : Nat) (z : Nat → Int) : Prop :=
  ∀ k, k < m → ∃ g off, A = some ⟨g, off, none⟩ ∧ g < w.heap.size ∧ w.cell? ⟨g, off + k, none⟩ = some (.int .u64 (z k)) ∧ 0 ≤ z k ∧ z k ≤ 18446744073709551615
/-- A sum that stops. -/
def acc (most : Int) (z : Nat → Int) : Nat → Option Int
  | 0 => some 0
  | k + 1 => match acc most z k with
    | some s => if most - s < z k then none else some (s + z k)
    | none => none
theorem acc_none (most : Int) (z : Nat → Int) (k : Nat) (h : acc most z k = none) : ∀ n, k ≤ n → acc most z n = none := by
  intro n hn
  induction n with
  | zero => rw [show k = 0 by omega] at h; exact h
  | succ n ih =>
    rcases Nat.lt_or_ge n k with h1 | h1
    · rw [show n + 1 = k by omega]; exact h
    · simp only [acc, ih h1]
theorem acc_over (most s : Int) (z : Nat → Int) (k : Nat) (h : acc most z k = some s) (h1 : most - s < z k) (n : Nat) (hn : k < n) : (acc most z n).getD most = most := by
  have h2 : acc most z (k + 1) = none := by simp only [acc, h, if_pos h1]
  rw [acc_none most z (k + 1) h2 n hn]
  rfl
theorem acc_on (most s : Int) (z : Nat → Int) (k : Nat) (h : acc most z k = some s) (h1 : ¬ most - s < z k) : acc most z (k + 1) = some (s + z k) := by simp only [acc, h, if_neg h1]

theorem wrap_over (s x : Int) (h : 18446744073709551615 < s + x) (h1 : s ≤ 18446744073709551615) (h2 : x ≤ 18446744073709551615) : IntKind.u64.wrap (s + x) = s + x - 18446744073709551616 := by
  rw [IntKind.wrap_u64]; omega
theorem add_and_xor (n : Nat) : ∀ a b : Nat, a < 2 ^ n → b < 2 ^ n → a + b = 2 * (a &&& b) + (a ^^^ b) := by
  induction n with
  | zero =>
    intro a b ha hb
    have h1 : a = 0 := by simpa using ha
    have h2 : b = 0 := by simpa using hb
    subst h1; subst h2; rfl
  | succ n ih =>
    intro a b ha hb
    have h := ih (a / 2) (b / 2) (by rw [Nat.pow_succ] at ha; omega) (by rw [Nat.pow_succ] at hb; omega)
    have e1 : (a &&& b) / 2 = a / 2 &&& b / 2 := Nat.and_div_two
    have e2 : (a ^^^ b) / 2 = a / 2 ^^^ b / 2 := Nat.xor_div_two
    have e3 : (a &&& b) % 2 = (a % 2) &&& (b % 2) := Nat.and_mod_two_pow (n := 1)
    have e4 : (a ^^^ b) % 2 = (a % 2) ^^^ (b % 2) := Nat.xor_mod_two_pow (n := 1)
    have e5 : a % 2 + b % 2 = 2 * ((a % 2) &&& (b % 2)) + ((a % 2) ^^^ (b % 2)) := by
      rcases Nat.mod_two_eq_zero_or_one a with ha2 | ha2 <;> rcases Nat.mod_two_eq_zero_or_one b with hb2 | hb2 <;> rw [ha2, hb2] <;> rfl
    rw [← e3, ← e4] at e5
    rw [← e1, ← e2] at h
    clear e1 e2 e3 e4 ih
    generalize a &&& b = p at *
    generalize a ^^^ b = q at *
    omega
theorem mid_nat (a b : Nat) (ha : a < 1073741824) (hb : b < 1073741824) : (a &&& b) + (a ^^^ b) / 2 = (a + b) / 2 := by
  have := add_and_xor 30 a b ha hb
  omega
theorem ofInt_i64 (a : Nat) (ha : a < 9223372036854775808) : (BitVec.ofInt 64 (a : Int)).toNat = a := by
  rw [BitVec.ofInt_natCast, BitVec.toNat_ofNat]; exact Nat.mod_eq_of_lt (by omega)
theorem i64_and_nat (a b : Nat) (ha : a < 9223372036854775808) (hb : b < 9223372036854775808) : bits .and .i64 (a : Int) (b : Int) = ((a &&& b : Nat) : Int) := by
  have hx : a &&& b < 2 ^ 63 := Nat.and_lt_two_pow _ (by omega)
  show IntKind.i64.wrap ((BitVec.ofInt 64 (a : Int) &&& BitVec.ofInt 64 (b : Int)).toNat : Int) = _
  rw [BitVec.toNat_and, ofInt_i64 a ha, ofInt_i64 b hb, IntKind.wrap_i64]
  omega
theorem i64_xor_nat (a b : Nat) (ha : a < 9223372036854775808) (hb : b < 9223372036854775808) : bits .xor .i64 (a : Int) (b : Int) = ((a ^^^ b : Nat) : Int) := by
  have hx : a ^^^ b < 2 ^ 63 := Nat.xor_lt_two_pow (by omega) (by omega)
  show IntKind.i64.wrap ((BitVec.ofInt 64 (a : Int) ^^^ BitVec.ofInt 64 (b : Int)).toNat : Int) = _
  rw [BitVec.toNat_xor, ofInt_i64 a ha, ofInt_i64 b hb, IntKind.wrap_i64]
  omega
theorem mid_int (a b : Int) (ha : 0 ≤ a) (ha1 : a < 1073741824) (hb : 0 ≤ b) (hb1 : b < 1073741824) : bits .and .i64 a b + bits .xor .i64 a b / 2 = (a + b) / 2 := by
  obtain ⟨x, rfl⟩ := Int.eq_ofNat_of_zero_le ha
  obtain ⟨y, rfl⟩ := Int.eq_ofNat_of_zero_le hb
  rw [i64_and_nat x y (by omega) (by omega), i64_xor_nat x y (by omega) (by omega)]
  have := mid_nat x y (by omega) (by omega)
  omega
theorem mid17 (a b : Int) (w : World) (ha : 0 ≤ a) (ha1 : a < 1073741824) (hb : 0 ≤ b) (hb1 : b < 1073741824) : Calls Try.prog 17 #[.int .i64 a, .int .i64 b] w fun e w' => e = .returned (.int .i64 ((a + b) / 2)) ∧ w = w' := by
  have hm : wrap64 (bits .and .i64 a b + bits .xor .i64 a b / 2) = (a + b) / 2 := by
    rw [mid_int a b ha ha1 hb hb1]
    unfold wrap64
    omega
  have HM := Lib.hid hm
  clear hm
  go_enter Try.func17, Try.ntmps17
  go_wp2
  go_ret
  exact ⟨by rw [← HM.out]; rfl, rfl⟩
set_option maxRecDepth 100000 in
set_option maxHeartbeats 2000000 in
theorem add15 (most : Int) (A : Option Addr) (n cap : Nat) (z : Nat → Int) (w : World) (hR : RowU w A n z) (m0 : 0 ≤ most) (m1 : most ≤ 18446744073709551615) (hn : n ≤ 1000) :
    Calls Try.prog 15 #[.int .u64 most, .slice A n cap] w fun e w' => e = .returned (.int .u64 ((acc most z n).getD most)) ∧ w = w' := by
  have HR := Lib.hid hR
  clear hR
  go_enter Try.func15, Try.ntmps15
  go_wp2_with fail
  go_loop [5, 10] (fun x i => ∃ (k : Nat) (s : Int), k ≤ n ∧ i = .int .i64 k ∧ x = .int .u64 s ∧ 0 ≤ s ∧ s ≤ most ∧ Hid (acc most z k = some s)) (fun _ i => n - (intOf i).toNat)
  case atStart => exact ⟨0, 0, Nat.zero_le _, rfl, rfl, Int.le_refl _, m0, rfl⟩
  case round =>
    obtain ⟨k, s, hk, rfl, rfl, s0, s1, HS⟩ := hrel
    by_cases hlt : k < n
    · obtain ⟨g, off, rfl, hg, hz, z0, z1⟩ := HR.out k hlt
      by_cases ho : most - s < z k
      · have HO := Lib.hid (acc_over most s z k HS.out ho n hlt)
        go_wp2
        go_ret
        exact ⟨by rw [HO.out]; rfl, rfl⟩
      · have HO := Lib.hid (acc_on most s z k HS.out ho)
        have hle : s + z k ≤ most := by omega
        go_wp2
        go_round
        case rel => exact ⟨k + 1, s + z k, by omega, by go_num, by go_num, by omega, hle, HO⟩
        case measure => simp [intOf]; omega
    · obtain rfl : k = n := by omega
      go_wp2
      go_ret
      exact ⟨by rw [HS.out]; rfl, rfl⟩
set_option maxRecDepth 100000 in
set_option maxHeartbeats 2000000 in
theorem radd16 (most : Int) (A : Option Addr) (n cap : Nat) (z : Nat → Int) (w : World) (hR : RowU w A n z) (m0 : 0 ≤ most) (m1 : most ≤ 18446744073709551615) (hn : n ≤ 1000) :
    Calls Try.prog 16 #[.int .u64 most, .slice A n cap] w fun e w' => e = .returned (.int .u64 ((acc most z n).getD most)) ∧ w = w' := by
  have HR := Lib.hid hR
  clear hR
  go_enter Try.func16, Try.ntmps16
  go_wp2_with fail
  go_loop [5, 6] (fun x i => ∃ (k : Nat) (s : Int), k ≤ n ∧ i = .int .i64 k ∧ x = .int .u64 s ∧ 0 ≤ s ∧ s ≤ most ∧ Hid (acc most z k = some s)) (fun _ i => n - (intOf i).toNat)
  case atStart => exact ⟨0, 0, Nat.zero_le _, rfl, rfl, Int.le_refl _, m0, rfl⟩
  case round =>
    obtain ⟨k, s, hk, rfl, rfl, s0, s1, HS⟩ := hrel
    by_cases hlt : k < n
    · obtain ⟨g, off, rfl, hg, hz, z0, z1⟩ := HR.out k hlt
      by_cases hw : 18446744073709551615 < s + z k
      · have HO := Lib.hid (acc_over most s z k HS.out (by omega) n hlt)
        have hlow : IntKind.u64.wrap (s + z k) < s := by rw [wrap_over s (z k) hw (by omega) z1]; omega
        go_wp2
        all_goals go_ret
        all_goals exact ⟨by rw [HO.out]; rfl, rfl⟩
      · by_cases ho : most - s < z k
        · have HO := Lib.hid (acc_over most s z k HS.out ho n hlt)
          have hgt : most < s + z k := by omega
          have hnl : ¬ s + z k < s := by omega
          go_wp2
          go_ret
          exact ⟨by rw [HO.out]; rfl, rfl⟩
        · have HO := Lib.hid (acc_on most s z k HS.out ho)
          have hle : s + z k ≤ most := by omega
          go_wp2
          go_round
          case rel => exact ⟨k + 1, s + z k, by omega, by go_num, by go_num, by omega, hle, HO⟩
          case measure => simp [intOf]; omega
    · obtain rfl : k = n := by omega
      go_wp2
      go_ret
      exact ⟨by rw [HS.out]; rfl, rfl⟩
def s2 : Nat → Int
  | 0 => 0 | 1 => 3 | 2 => 8 | _ => 0
theorem s2_steps : Steps 2 s2 := ⟨rfl, by decide, fun k hk => by match k, hk with | 0, _ | 1, _ => decide⟩
theorem s2_cut : (fun k => if k ≤ 2 then s2 k else 0) = s2 := by
  funext k
  by_cases h : k ≤ 2
  · rw [if_pos h]
  · rw [if_neg h]
    match k, h with
    | 0, h | 1, h | 2, h => exact absurd h (by decide)
    | n + 3, _ => rfl
theorem row2 (w : World) (t : TypeId) (a0 a1 : Int) (z : Nat → Int) (hz : z 0 = a0 ∧ z 1 = a1) (hb : ∀ k, k < 2 → -9223372036854775808 ≤ z k ∧ z k ≤ 9223372036854775807) :
    RowI (w.alloc (.cells #[.int .i64 a0, .int .i64 a1] t)) (some ⟨w.heap.size, 0, none⟩) 2 z := by
  obtain ⟨rfl, rfl⟩ := hz
  intro k hk
  refine ⟨w.heap.size, 0, rfl, by simp, ?_, (hb k hk).1, (hb k hk).2⟩
  match k, hk with
  | 0, _ => simp [go_sem]
  | 1, _ => simp [go_sem]
set_option maxRecDepth 100000 in
set_option maxHeartbeats 2000000 in
theorem awake10 (w : World) : Calls Try.prog 10 #[] w fun e w' => e = .returned (.bool true) ∧ Below w.heap.size w w' := by
  have hzero := zero70
  have hrow := row2 w 3 3 5 (fun k => if k = 0 then 3 else 5) ⟨rfl, rfl⟩ (fun k hk => by match k, hk with | 0, _ | 1, _ => decide)
  have HROW := Lib.hid hrow
  clear hrow
  go_enter Try.func10, Try.ntmps10
  go_wp2_with fail
  refine (new_ok _ 2 2 _ s2 _ HROW.out s2_steps (fun k hk => by match k, hk with | 0, _ | 1, _ => rfl)).mono ?_
  rintro e w1 ⟨cs, rfl, hL, hb1⟩
  rw [s2_cut] at hL
  have hB1 : Below w.heap.size w w1 := Below.step (by go_grown) hb1
  have HSZ := Lib.hid (lay_info hL)
  have HZS := Lib.hid (show Z0.size = cs.size from by rw [hL.size]; rfl)
  have HON := Lib.hid hL.one
  have g1 := heap_alloc_new w1 (Obj.cells Z0 28)
  have g2 := heap_setRow _ _ _ _ cs g1
  have HG1 := Lib.hid g1
  have HG2 := Lib.hid g2
  have HL := Lib.hid hL
  have hB2 : Below w.heap.size w ((w1.alloc (Obj.cells Z0 28)).setRow w1.heap.size cs) := below_setRow (hB1.alloc hB1.size _) hB1.size _
  have hrow2 := row2 ((w1.alloc (Obj.cells Z0 28)).setRow w1.heap.size cs) 3 1 2 (fun k => if k = 0 then 1 else 2) ⟨rfl, rfl⟩ (fun k hk => by match k, hk with | 0, _ | 1, _ => decide)
  have hsz2 : ((w1.alloc (Obj.cells Z0 28)).setRow w1.heap.size cs).heap.size = w1.heap.size + 1 := by simp [World.setRow]
  rw [hsz2] at hrow2
  have HROW2 := Lib.hid hrow2
  clear g1 g2 hL hb1 hrow2 hsz2
  go_wp2_with (first | (refine wpList_store_row rfl 28 _ _ rfl w1.heap.size cs rfl rfl 28 Z0 HG1.out HSZ.out HZS.out HON.out ?_) | (refine wpList_load_row rfl 28 _ rfl w1.heap.size rfl 28 _ (0, 0) _ HG2.out Try.underlying28 rfl HSZ.out ?_))
  refine (pack_ok HL.out s2_steps _ _ _ HROW2.out (fun k hk => by match k, hk with | 0, _ | 1, _ => decide)).mono ?_
  rintro e w3 ⟨rfl, hb3⟩
  have hB3 : Below w.heap.size w w3 := Below.step (hB2.alloc hB2.size _) hb3
  have HW := Lib.hid (show word s2 (fun k => if k = 0 then 1 else 2) 2 = 17 from by decide)
  rw [HW.out]
  go_wp2
  go_ret
  exact ⟨rfl, hB3⟩
end Go.Proofs.Ytcbhbdadahlbfaa

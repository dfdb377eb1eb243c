/-
  What is wrong with widths; fields that are none.
-/
import Derived.Test.YtjkojbaphdlhlaaDoorRows
import Derived.WalkKit
import Derived.ProofKit
import Derived.OpenShut
import Derived.ShutString
import Derived.Below
import Derived.Outline
import Derived.WalkLawsBesides
import Derived.WalkSpells
import Derived.Handy
import Derived.Deep.QuietTactic
import Derived.BigQuiet
import Derived.RegionTactic
import Derived.ChangeAlike
import Derived.Lib.Hide
import Derived.Laws.Rows
import Derived.Laws.Tables
import Derived.Laws.CopyOwn
import Derived.Deep.WholeRow
import Derived.Deep.LoopGhost
import Derived.Laws.BitsAllLaws
import Derived.Laws.BitsLemmas
import Derived.IntWalk
import Derived.Test.YtjkojbaphdlhlaaDoorKit
import Derived.Test.YtjkojbaphdlhlaaDoorFpLay
import Derived.Test.YtjkojbaphdlhlaaDoorFpAny
import Derived.Test.YtjkojbaphdlhlaaDoorFpGet
import Derived.Test.YtjkojbaphdlhlaaDoorFpRefTwo
import Derived.Test.YtjkojbaphdlhlaaDoorFpAwakeB
namespace Go.Proofs.YtjkojbaphdlhlaaDoor.Fp
set_option linter.unusedVariables false
set_option linter.unusedSimpArgs false
open Go.ChangeShapes Go.WideShapes Go.ChangeAt Go.RowKit
set_option maxRecDepth 100000 in
set_option maxHeartbeats 2000000 in
theorem rcheck_ok (A : Option Addr) (n cap : Nat) (ws s : Nat → Int) (w : World) (hR : RowI w A n ws) (hS : Steps n s) (hw : ∀ k, k < n → s (k + 1) = s k + ws k) :
    Calls Tryd.prog 9 #[.slice A n cap] w fun e w' => e = .returned (.tuple #[.int .i64 0, .int .i64 0]) ∧ w = w' := by
  have HS := Lib.hid hS
  have HW := Lib.hid hw
  have HR := Lib.hid hR
  have hn := hS.2.1
  clear hS hw hR
  go_enter Tryd.func9, Tryd.ntmps9
  go_wp2_with fail
  go_loop [4, 5] (fun x i => ∃ k : Nat, k ≤ n ∧ i = .int .i64 k ∧ x = .int .i64 (s k)) (fun _ i => n + 1 - (intOf i).toNat)
  case atStart => exact ⟨0, Nat.zero_le _, rfl, by rw [HS.out.1]⟩
  case round =>
    obtain ⟨k, hk, rfl, rfl⟩ := hrel
    by_cases hlt : k < n
    · obtain ⟨g, off, rfl, hg, hz, z0, z1⟩ := HR.out k hlt
      obtain ⟨s0, s1, s2, s3⟩ := HS.out.2.2 k hlt
      have hwk := HW.out k hlt
      have q1 : 1 ≤ ws k := by omega
      have q2 : ws k ≤ 32 := by omega
      have q3 : s k + ws k ≤ 64 := by omega
      have q4 : s k ≤ 64 := by omega
      have HWK := Lib.hid hwk
      clear hwk s1 s2 s3
      go_wp2_with fail
      go_round
      case rel => exact ⟨k + 1, by omega, by go_num, by rw [HWK.out]⟩
      case measure => simp [intOf]; omega
    · obtain rfl : k = n := by omega
      have hd : decide ((k : Int) < (k : Int)) = false := decide_eq_false (by omega)
      go_wp2
      go_ret2
      exact ⟨rfl, rfl⟩
set_option maxRecDepth 100000 in
set_option maxHeartbeats 2000000 in
theorem rcheck_bad (A : Option Addr) (n cap : Nat) (ws s : Nat → Int) (w : World) (hR : RowI w A n ws) (j : Nat) (hj : j < n) (hS : Steps j s) (hw : ∀ k, k < j → s (k + 1) = s k + ws k) (hs : 0 ≤ s j ∧ s j ≤ 64) (hjj : j ≤ 64)
    (hb : ws j < 1 ∨ 32 < ws j ∨ 64 < s j + ws j) : Calls Tryd.prog 9 #[.slice A n cap] w fun e w' => e = .returned (.tuple #[.int .i64 (badCode (ws j)), .int .i64 j]) ∧ w = w' := by
  have HR := Lib.hid hR
  have HS := Lib.hid hS
  have HW := Lib.hid hw
  have HBD := Lib.hid hb
  clear hR hS hw hb
  go_enter Tryd.func9, Tryd.ntmps9
  go_wp2_with fail
  go_loop [4, 5] (fun x i => ∃ k : Nat, k ≤ j ∧ i = .int .i64 k ∧ x = .int .i64 (s k)) (fun _ i => j + 1 - (intOf i).toNat)
  case atStart => exact ⟨0, Nat.zero_le _, rfl, by rw [HS.out.1]⟩
  case round =>
    obtain ⟨k, hk, rfl, rfl⟩ := hrel
    have hlt : k < n := by omega
    obtain ⟨g, off, rfl, hg, hz, z0, z1⟩ := HR.out k hlt
    by_cases hkj : k < j
    · obtain ⟨s0, s1, s2, s3⟩ := HS.out.2.2 k hkj
      have hwk := HW.out k hkj
      have q1 : 1 ≤ ws k := by omega
      have q2 : ws k ≤ 32 := by omega
      have q3 : s k + ws k ≤ 64 := by omega
      have q4 : s k ≤ 64 := by omega
      have HWK := Lib.hid hwk
      clear hwk s1 s2 s3
      go_wp2_with fail
      go_round
      case rel => exact ⟨k + 1, by omega, by go_num, by rw [HWK.out]⟩
      case measure => simp [intOf]; omega
    · obtain rfl : k = j := by omega
      obtain ⟨s0, s1⟩ := hs
      by_cases h1 : ws k < 1
      · have HC := Lib.hid (show badCode (ws k) = 5 from if_pos (.inl h1))
        have hd : decide (ws k < 1) = true := decide_eq_true h1
        go_wp2
        go_ret2
        exact ⟨by rw [HC.out]; rfl, rfl⟩
      · have hd : decide (ws k < 1) = false := decide_eq_false h1
        by_cases h2 : 32 < ws k
        · have HC := Lib.hid (show badCode (ws k) = 5 from if_pos (.inr h2))
          have hd2 : decide (32 < ws k) = true := decide_eq_true h2
          go_wp2
          go_ret2
          exact ⟨by rw [HC.out]; rfl, rfl⟩
        · have HC := Lib.hid (show badCode (ws k) = 4 from if_neg (by omega))
          have h3 : 64 < s k + ws k := by have := HBD.out; omega
          have hd2 : decide (32 < ws k) = false := decide_eq_false h2
          have q2 : ws k ≤ 32 := by omega
          go_wp2
          go_ret2
          exact ⟨by rw [HC.out]; rfl, rfl⟩
theorem rget_out (A : Option Addr) (n cap : Nat) (x i : Int) (w : World) (h : i < 0 ∨ (n : Int) ≤ i) :
    Calls Tryd.prog 17 #[.slice A n cap, .int .u64 x, .int .i64 i] w fun e w' => e = .returned (.int .i64 0) ∧ w = w' := by
  by_cases h0 : i < 0
  · have hd : decide (i < 0) = true := decide_eq_true h0
    clear h
    go_enter Tryd.func17, Tryd.ntmps17
    go_wp2
    go_ret
    exact ⟨rfl, rfl⟩
  · have hd : decide (i < 0) = false := decide_eq_false h0
    have hd2 : decide ((n : Int) ≤ i) = true := decide_eq_true (by omega)
    clear h
    go_enter Tryd.func17, Tryd.ntmps17
    go_wp2
    go_ret
    exact ⟨rfl, rfl⟩
set_option maxRecDepth 100000 in
set_option maxHeartbeats 1000000 in
theorem get_out {cs : Array Value} {n : Nat} {s : Nat → Int} (hL : Lay cs n s) (x i : Int) (w : World) (h1 : i < 0 ∨ (n : Int) ≤ i) (hn : n ≤ 64) :
    Calls Tryd.prog 16 #[.agg cs, .int .u64 x, .int .i64 i] w fun e w' => e = .returned (.int .i64 0) ∧ Below w.heap.size w w' := by
  have HSZ := Lib.hid (lay_info hL)
  have HA := Lib.hid (heap_alloc_new w (.cells cs 28))
  have HN := Lib.hid (fun W => has_no hL i W h1 hn)
  clear h1
  go_enter Tryd.func16, Tryd.ntmps16
  go_wp2_with (refine wpList_load_row rfl 28 _ rfl w.heap.size rfl 28 _ (0, 0) _ HA.out Tryd.underlying28 rfl HSZ.out ?_)
  refine (HN.out _).mono ?_
  rintro e w1 ⟨rfl, hb1⟩
  have hB1 : Below w.heap.size w w1 := Below.step (by go_grown) hb1
  clear hb1
  go_wp2
  go_ret
  exact ⟨rfl, hB1⟩
/-- The number of a field, none's is 0. -/
def gnum (s : Nat → Int) (n x : Nat) (i : Int) : Int := if 0 ≤ i ∧ i < n then fld s x i.toNat else 0
theorem get_any {cs : Array Value} {n : Nat} {s : Nat → Int} (hL : Lay cs n s) (hS : Steps n s) (x : Nat) (i : Int) (hx : x < 18446744073709551616) (w : World) :
    Calls Tryd.prog 16 #[.agg cs, .int .u64 (x : Int), .int .i64 i] w fun e w' => e = .returned (.int .i64 (gnum s n x i)) ∧ Below w.heap.size w w' := by
  unfold gnum
  by_cases h : 0 ≤ i ∧ i < n
  · obtain ⟨k, rfl⟩ : ∃ k : Nat, i = (k : Int) := ⟨i.toNat, by omega⟩
    rw [if_pos h, Int.toNat_natCast]
    exact get43 hL hS x k hx (by omega) w
  · rw [if_neg h]
    exact get_out hL x i w (by omega) hS.2.1
theorem rget_any {n : Nat} {s ws : Nat → Int} (hS : Steps n s) (hw : ∀ k, k < n → s (k + 1) = s k + ws k) (A : Option Addr) (cap : Nat) (x : Nat) (i : Int) (hx : x < 18446744073709551616) (w : World) (hR : RowI w A n ws) :
    Calls Tryd.prog 17 #[.slice A n cap, .int .u64 (x : Int), .int .i64 i] w fun e w' => e = .returned (.int .i64 (gnum s n x i)) ∧ w = w' := by
  unfold gnum
  by_cases h : 0 ≤ i ∧ i < n
  · obtain ⟨k, rfl⟩ : ∃ k : Nat, i = (k : Int) := ⟨i.toNat, by omega⟩
    rw [if_pos h, Int.toNat_natCast]
    exact rget_is hS hw A cap x k hx (by omega) w hR
  · rw [if_neg h]
    exact rget_out A n cap x i w (by omega)
end Go.Proofs.YtjkojbaphdlhlaaDoor.Fp

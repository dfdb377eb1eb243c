/-
  Contracts of storm.Source (Next, Below, Pick), of the document's source, and of the awake of layer 30.
-/
import Derived.Test.YtgakgnofflnjoaaRows
import Derived.WalkKit
import Derived.ProofKit
import Derived.OpenShut
import Derived.ShutString
import Derived.Below
import Derived.Outline
import Derived.WalkLawsBesides
import Derived.WalkSpells
import Derived.Handy
import Derived.Deep.QuietTactic
import Derived.BigQuiet
import Derived.RegionTactic
import Derived.ChangeAlike
import Derived.Lib.Hide
import Derived.Test.YtgakgnofflnjoaaKit
namespace Go.Proofs.Ytgakgnofflnjoaa
open Go.ChangeShapes Go.WideShapes Go.ChangeAt Go.RowKit

/-- The number behind a number. -/
def nx (n : Int) : Int := IntKind.u64.wrap (IntKind.u64.wrap (n * 6364136223846793005) + 1442695040888963407)
theorem nx_lo (n : Int) : 0 ≤ nx n := by unfold nx; rw [IntKind.wrap_u64]; omega
theorem nx_hi (n : Int) : nx n < 18446744073709551616 := by unfold nx; rw [IntKind.wrap_u64]; omega
/-- Its high bits. -/
def hi (n : Int) : Int := n / 8589934592
/-- What is drawn below k. -/
def bl (m k : Int) : Int := if k < 1 then 0 else m / 8589934592 % k
theorem bl_lo (m k : Int) : 0 ≤ bl m k := by
  unfold bl; split
  · omega
  · exact Int.emod_nonneg _ (by omega)
theorem bl_hi (m k : Int) (hk : 1 ≤ k) : bl m k < k := by
  unfold bl; rw [if_neg (by omega)]; exact Int.emod_lt_of_pos _ (by omega)

set_option maxHeartbeats 400000 in
theorem next43 (b : Nat) (n : Int) (w : World) (hc : w.cell? ⟨b, 0, none⟩ = some (.int .u64 n)) (hf : w.frozen? ⟨b, 0, none⟩ = false) :
    Calls Try.prog 15 #[.pointer (some ⟨b, 0, none⟩)] w fun e w' => e = .returned (.int .u64 (hi (nx n))) ∧ w.setCell ⟨b, 0, none⟩ (.int .u64 (nx n)) = w' := by
  go_enter Try.func15, Try.ntmps15
  go_wp2
  go_ret
  exact ⟨rfl, rfl⟩

/-- Behind a draw from block b. -/
def Drew (w : World) (b : Nat) (n : Int) (v : Value) (e : Ending) (w' : World) : Prop := e = .returned v ∧ w.setCell ⟨b, 0, none⟩ (.int .u64 (nx n)) = w'

set_option maxHeartbeats 400000 in
theorem below40_low (b : Nat) (n k : Int) (w : World) (hk : k < 1) (hc : w.cell? ⟨b, 0, none⟩ = some (.int .u64 n)) (hf : w.frozen? ⟨b, 0, none⟩ = false) :
    Calls Try.prog 22 #[.pointer (some ⟨b, 0, none⟩), .int .i64 k] w (Drew w b n (.int .i64 (bl (nx n) k))) := by
  have hb : bl (nx n) k = 0 := by unfold bl; rw [if_pos hk]
  rw [hb]
  clear hb
  go_enter Try.func22, Try.ntmps22
  go_wp2_with fail
  refine (next43 _ _ _ hc hf).mono ?_
  rintro e w1 ⟨rfl, rfl⟩
  go_wp2
  go_ret
  exact ⟨rfl, rfl⟩

theorem mod_plain (m k : Int) (h0 : 0 ≤ m) (h1 : m < 18446744073709551616) (hk : 1 ≤ k) : m / 8589934592 % k ≤ 2147483647 ∧ 0 ≤ m / 8589934592 % k := by
  have h2 : 0 ≤ m / 8589934592 % k := Int.emod_nonneg _ (by omega)
  have h3 : m / 8589934592 % k ≤ m / 8589934592 := by
    have e := Int.mul_ediv_add_emod (m / 8589934592) k
    have p : 0 ≤ k * (m / 8589934592 / k) := Int.mul_nonneg (by omega) (Int.ediv_nonneg (by omega) (by omega))
    omega
  exact ⟨by omega, h2⟩
theorem bl_pos (n k : Int) (hk : 1 ≤ k) : bl (nx n) k = hi (nx n) % k ∧ hi (nx n) % k ≤ 2147483647 ∧ 0 ≤ hi (nx n) % k := by
  have := mod_plain (nx n) k (nx_lo n) (nx_hi n) hk
  exact ⟨by unfold bl hi; rw [if_neg (by omega)], this.1, this.2⟩
theorem hi_lo (n : Int) : 0 ≤ hi (nx n) := by have := nx_lo n; unfold hi; omega

set_option maxHeartbeats 400000 in
theorem below40_pos (b : Nat) (n k : Int) (w : World) (hk : 1 ≤ k) (hk1 : k ≤ 9223372036854775807) (hc : w.cell? ⟨b, 0, none⟩ = some (.int .u64 n)) (hf : w.frozen? ⟨b, 0, none⟩ = false) :
    Calls Try.prog 22 #[.pointer (some ⟨b, 0, none⟩), .int .i64 k] w (Drew w b n (.int .i64 (bl (nx n) k))) := by
  obtain ⟨hb, hm, hm0⟩ := bl_pos n k hk
  have hl := hi_lo n
  rw [hb]
  clear hb
  go_enter Try.func22, Try.ntmps22
  go_wp2_with fail
  refine (next43 _ _ _ hc hf).mono ?_
  rintro e w1 ⟨rfl, rfl⟩
  go_wp2
  go_ret
  exact ⟨rfl, rfl⟩

theorem below40 (b : Nat) (n k : Int) (w : World) (hk1 : k ≤ 9223372036854775807) (hc : w.cell? ⟨b, 0, none⟩ = some (.int .u64 n)) (hf : w.frozen? ⟨b, 0, none⟩ = false) :
    Calls Try.prog 22 #[.pointer (some ⟨b, 0, none⟩), .int .i64 k] w (Drew w b n (.int .i64 (bl (nx n) k))) := by
  by_cases hk : k < 1
  · exact below40_low b n k w hk hc hf
  · exact below40_pos b n k w (by omega) hk1 hc hf

theorem below_val (n k : Int) (hk : 1 ≤ k) :
    wrap64 ((IntKind.u64.wrap ((IntKind.u64.wrap (IntKind.u64.wrap (n * 6364136223846793005) + 1442695040888963407)).tdiv 8589934592)).tmod k) = bl (nx n) k := by
  show wrap64 ((IntKind.u64.wrap ((nx n).tdiv 8589934592)).tmod k) = _
  have h0 := nx_lo n
  have h1 := nx_hi n
  rw [Int.tdiv_eq_ediv_of_nonneg h0]
  have e : IntKind.u64.wrap (nx n / 8589934592) = nx n / 8589934592 := by rw [IntKind.wrap_u64]; omega
  rw [e, Int.tmod_eq_emod_of_nonneg (by omega)]
  have hp := mod_plain (nx n) k h0 h1 hk
  unfold bl
  rw [if_neg (by omega)]
  unfold wrap64
  omega

set_option maxHeartbeats 400000 in
theorem below41_low (b : Nat) (n k : Int) (w : World) (hk : k < 1) (hc : w.cell? ⟨b, 0, none⟩ = some (.int .u64 n)) (hf : w.frozen? ⟨b, 0, none⟩ = false) :
    Calls Try.prog 20 #[.pointer (some ⟨b, 0, none⟩), .int .i64 k] w (Drew w b n (.int .i64 (bl (nx n) k))) := by
  have hb : bl (nx n) k = 0 := by unfold bl; rw [if_pos hk]
  rw [hb]
  clear hb
  go_enter Try.func20, Try.ntmps20
  go_wp2
  go_ret
  exact ⟨rfl, rfl⟩

set_option maxHeartbeats 400000 in
theorem below41_pos (b : Nat) (n k : Int) (w : World) (hk : 1 ≤ k) (hk1 : k ≤ 9223372036854775807) (hc : w.cell? ⟨b, 0, none⟩ = some (.int .u64 n)) (hf : w.frozen? ⟨b, 0, none⟩ = false) :
    Calls Try.prog 20 #[.pointer (some ⟨b, 0, none⟩), .int .i64 k] w (Drew w b n (.int .i64 (bl (nx n) k))) := by
  have hm := below_val n k hk
  have HM := Lib.hid hm
  clear hm
  go_enter Try.func20, Try.ntmps20
  go_wp2
  go_ret
  exact ⟨by rw [← HM.out]; rfl, rfl⟩

theorem below41 (b : Nat) (n k : Int) (w : World) (hk1 : k ≤ 9223372036854775807) (hc : w.cell? ⟨b, 0, none⟩ = some (.int .u64 n)) (hf : w.frozen? ⟨b, 0, none⟩ = false) :
    Calls Try.prog 20 #[.pointer (some ⟨b, 0, none⟩), .int .i64 k] w (Drew w b n (.int .i64 (bl (nx n) k))) := by
  by_cases hk : k < 1
  · exact below41_low b n k w hk hc hf
  · exact below41_pos b n k w (by omega) hk1 hc hf

set_option maxHeartbeats 400000 in
/-- Pick of some numbers in a row. -/
theorem pick42 (b : Nat) (n : Int) (g off len cap : Nat) (v : Int) (w : World) (hl : 0 < len) (hl1 : (len : Int) ≤ 9223372036854775807) (hne : g ≠ b)
    (hv : w.cell? ⟨g, off + (bl (nx n) len).toNat, none⟩ = some (.int .i64 v)) (hc : w.cell? ⟨b, 0, none⟩ = some (.int .u64 n)) (hf : w.frozen? ⟨b, 0, none⟩ = false) :
    Calls Try.prog 28 #[.pointer (some ⟨b, 0, none⟩), .slice (some ⟨g, off, none⟩) len cap] w (Drew w b n (.int .i64 v)) := by
  have h1 := bl_lo (nx n) len
  have h2 := bl_hi (nx n) len (by omega)
  have hz : ((len : Int) == 0) = false := by rw [beq_eq_false_iff_ne]; omega
  have hv1 : (w.setCell ⟨b, 0, none⟩ (.int .u64 (nx n))).cell? ⟨g, off + (bl (nx n) len).toNat, none⟩ = some (.int .i64 v) := by
    rw [World.cell?_setCell_other _ _ _ _ (by intro h; injection h with h; exact hne h.symm)]; exact hv
  go_enter Try.func28, Try.ntmps28
  go_wp2_with fail
  refine (below40 _ _ _ _ (by omega) hc hf).mono ?_
  rintro e w1 ⟨rfl, rfl⟩
  go_wp2
  go_ret
  exact ⟨rfl, rfl⟩
set_option maxHeartbeats 400000 in
theorem pick42_none (b : Nat) (A : Option Addr) (cap : Nat) (w : World) :
    Calls Try.prog 28 #[.pointer (some ⟨b, 0, none⟩), .slice A 0 cap] w fun e w' => e = .returned (.int .i64 0) ∧ w = w' := by
  go_enter Try.func28, Try.ntmps28
  go_wp2
  go_ret
  exact ⟨rfl, rfl⟩

theorem from39 (n : Int) (w : World) : Calls Try.prog 14 #[.int .u64 n] w fun e w' => e = .returned (.pointer (some ⟨w.heap.size, 0, none⟩)) ∧ w.alloc (.cells #[.int .u64 n] 82) = w' := by
  go_enter Try.func14, Try.ntmps14
  go_wp2
  go_ret
  exact ⟨rfl, rfl⟩
theorem calm53 (w : World) : Calls Try.prog 16 #[] w fun e w' => e = .returned (.agg #[.int .i64 2, .int .i64 1, .int .i64 1, .int .i64 40, .int .i64 100, .int .i64 5]) ∧ Below w.heap.size w w' := by
  go_enter Try.func16, Try.ntmps16
  go_wp2
  refine bodyPost_ret (by simp [results, Try.results16, go_sem]; try rfl) rfl ⟨rfl, ?_⟩
  go_grown
set_option maxHeartbeats 400000 in
theorem awake38 (w : World) : Calls Try.prog 8 #[] w fun e w' => e = .returned (.bool true) ∧ Below w.heap.size w w' := by
  have hn : (hi (nx 0) == 167951807) = true := by decide +kernel
  go_enter Try.func8, Try.ntmps8
  go_wp2_with fail
  refine (from39 _ _).mono ?_
  rintro e w1 ⟨rfl, rfl⟩
  go_wp2_with fail
  refine (next43 w.heap.size 0 _ (by simp [go_sem]) (by simp [go_sem])).mono ?_
  rintro e w1 ⟨rfl, rfl⟩
  go_wp2_with fail
  refine (calm53 _).mono ?_
  rintro e w2 ⟨rfl, hb2⟩
  have hB2 : Below w.heap.size w w2 := Below.step (by go_grown) hb2
  go_wp2
  go_ret
  exact ⟨rfl, by go_grown⟩
end Go.Proofs.Ytgakgnofflnjoaa

/-
  Layout.With by its contracts.
-/
import Derived.Test.YtgeognijglahfaaRows
import Derived.WalkKit
import Derived.ProofKit
import Derived.OpenShut
import Derived.ShutString
import Derived.Below
import Derived.Outline
import Derived.WalkLawsBesides
import Derived.WalkSpells
import Derived.Handy
import Derived.Deep.QuietTactic
import Derived.BigQuiet
import Derived.RegionTactic
import Derived.ChangeAlike
import Derived.Lib.Hide
import Derived.Laws.Rows
import Derived.Laws.Tables
import Derived.Laws.CopyOwn
import Derived.Deep.WholeRow
import Derived.Deep.LoopGhost
import Derived.Laws.BitsAllLaws
import Derived.Laws.BitsLemmas
import Derived.IntWalk
import Derived.Test.YtgeognijglahfaaKit
import Derived.Test.YtgeognijglahfaaLay
import Derived.Test.YtgeognijglahfaaAny
import Derived.Test.YtgeognijglahfaaGet
import Derived.Test.YtgeognijglahfaaWithM
namespace Go.Proofs.Ytgeognijglahfaa
open Go.ChangeShapes Go.WideShapes Go.ChangeAt Go.RowKit
theorem with_num (x a m v : Nat) (hx : x < 18446744073709551616) (hm : m ≤ 32) (ham : a + m ≤ 64) (hv : v < 2 ^ m) :
    bits .or .u64 (bits .andNot .u64 (x : Int) (IntKind.u64.wrap ((2 ^ m - 1) * 2 ^ a))) (IntKind.u64.wrap ((v : Int) * 2 ^ a)) = ((wthN x a m v : Nat) : Int) := by
  have hm1 : 1 ≤ 2 ^ m := Nat.one_le_two_pow
  have e : 2 ^ (a + m) = 2 ^ m * 2 ^ a := by rw [Nat.pow_add, Nat.mul_comm]
  have h5 : 2 ^ (a + m) ≤ 2 ^ 64 := Nat.pow_le_pow_right (by decide) ham
  have h6 := Nat.two_pow_pos a
  have h4 : (2 ^ m - 1 + 1) * 2 ^ a = 2 ^ (a + m) := by rw [Nat.sub_add_cancel hm1, e]
  rw [Nat.add_mul, Nat.one_mul] at h4
  have h2 : (v + 1) * 2 ^ a ≤ 2 ^ m * 2 ^ a := Nat.mul_le_mul_right _ hv
  rw [Nat.add_mul, Nat.one_mul] at h2
  have e1 : ((2 : Int) ^ m - 1) * 2 ^ a = (((2 ^ m - 1) * 2 ^ a : Nat) : Int) := by
    rw [Int.natCast_mul, Int.natCast_sub hm1]; simp
  have e2 : ((v : Int)) * 2 ^ a = ((v * 2 ^ a : Nat) : Int) := by rw [Int.natCast_mul]; simp
  rw [e1, e2, IntWalk.u64_in _ (by omega), IntWalk.u64_in _ (by omega), u64_andNot_nat _ _ hx (by omega)]
  have h7 : x &&& (18446744073709551615 - (2 ^ m - 1) * 2 ^ a) ≤ x := Nat.and_le_left
  rw [u64_or_nat _ _ (by omega) (by omega), wth_bits x a m v (by omega) ham hv]
set_option maxRecDepth 100000 in
set_option maxHeartbeats 1000000 in
theorem with_none {cs : Array Value} {n : Nat} {s : Nat → Int} (hL : Lay cs n s) (x i v : Int) (w : World) (h1 : i < 0 ∨ (n : Int) ≤ i) (hn : n ≤ 64) :
    Calls Try.prog 11 #[.agg cs, .int .u64 x, .int .i64 i, .int .i64 v] w (PackCode 3 w) := by
  have HSZ := Lib.hid (lay_info hL)
  have HA := Lib.hid (heap_alloc_new w (.cells cs 28))
  have HN := Lib.hid (fun W => has_no hL i W h1 hn)
  clear h1
  go_enter Try.func11, Try.ntmps11
  go_wp2_with (refine wpList_load_row rfl 28 _ rfl w.heap.size rfl 28 _ (0, 0) _ HA.out Try.underlying28 rfl HSZ.out ?_)
  refine (HN.out _).mono ?_
  rintro e w1 ⟨rfl, hb1⟩
  have hB1 : Below w.heap.size w w1 := Below.step (by go_grown) hb1
  clear hb1
  go_wp2
  go_ret2
  exact ⟨rfl, hB1⟩
set_option maxRecDepth 100000 in
set_option maxHeartbeats 1000000 in
theorem with_bad {cs : Array Value} {n : Nat} {s : Nat → Int} (hL : Lay cs n s) (x : Int) (i : Nat) (v : Int) (w : World) (hi : i < n) (hn : n ≤ 64) (hF : ∀ W, Calls Try.prog 60 #[.agg cs, .int .i64 (i : Int), .int .i64 v] W fun e w' => e = .returned (.bool false) ∧ Below W.heap.size W w') :
    Calls Try.prog 11 #[.agg cs, .int .u64 x, .int .i64 (i : Int), .int .i64 v] w (PackBad i w) := by
  have HSZ := Lib.hid (lay_info hL)
  have HA := Lib.hid (heap_alloc_new w (.cells cs 28))
  have HF := Lib.hid hF
  clear hF
  go_enter Try.func11, Try.ntmps11
  go_wp2_with (refine wpList_load_row rfl 28 _ rfl w.heap.size rfl 28 _ (0, 0) _ HA.out Try.underlying28 rfl HSZ.out ?_)
  refine (has_yes hL i _ (by omega) (by omega) hn).mono ?_
  rintro e w1 ⟨rfl, hb1⟩
  have hB1 : Below w.heap.size w w1 := Below.step (by go_grown) hb1
  have HA1 := Lib.hid ((hb1.block w.heap.size (by simp)).trans HA.out)
  have hl1 : w.heap.size < w1.heap.size := by have := hb1.size; simp at this; omega
  clear hb1
  go_wp2_with (refine wpList_load_row rfl 28 _ rfl w.heap.size rfl 28 _ (0, 0) _ HA1.out Try.underlying28 rfl HSZ.out ?_)
  refine (HF.out _).mono ?_
  rintro e w2 ⟨rfl, hb2⟩
  have hB2 : Below w.heap.size w w2 := Below.step hB1 hb2
  have hl2 : w.heap.size ≤ w2.heap.size := hB2.size
  clear hb2
  go_wp2_with fail
  refine (at_code _ _ _).mono ?_
  rintro e w3 ⟨v, rfl, hF3, hb3⟩
  have hB3 : Below w.heap.size w w3 := Below.step hB2 hb3
  have HF3 := Lib.hid hF3
  clear hF3 hb3
  go_wp2
  go_ret2
  exact ⟨_, rfl, HF3.out.low hl2, hB3⟩
set_option maxRecDepth 100000 in
set_option maxHeartbeats 4000000 in
theorem with_ok {cs : Array Value} {n : Nat} {s : Nat → Int} (hL : Lay cs n s) (hS : Steps n s) (x i v : Nat) (w : World) (hx : x < 18446744073709551616) (hi : i < n) (hv : v < 2 ^ (s (i + 1) - s i).toNat) :
    Calls Try.prog 11 #[.agg cs, .int .u64 (x : Int), .int .i64 (i : Int), .int .i64 (v : Int)] w fun e w' => e = .returned (.tuple #[.int .u64 (wth s x i v : Nat), .nilIface]) ∧ Below w.heap.size w w' := by
  obtain ⟨s0, s1, s2, s3⟩ := hS.2.2 i hi
  have hn := hS.2.1
  have HSZ := Lib.hid (lay_info hL)
  have HA := Lib.hid (heap_alloc_new w (.cells cs 28))
  have HM := Lib.hid (fun W => most_yes hL i W hi hn s0 s1 s2 s3)
  have HG := Lib.hid (with_num x (s i).toNat (s (i + 1) - s i).toNat v hx (by omega) (by omega) hv)
  have hpb := pow_bd (s (i + 1) - s i).toNat (by omega)
  have hvi : (v : Int) < 2 ^ (s (i + 1) - s i).toNat := by
    have h2 : ((2 ^ (s (i + 1) - s i).toNat : Nat) : Int) = (2 : Int) ^ (s (i + 1) - s i).toNat := by simp
    omega
  have hv9 : (v : Int) ≤ 4294967296 := by omega
  have hv8 : (0 : Int) ≤ (v : Int) := by omega
  have HF := Lib.hid (fun W => fits_yes hL i (v : Int) W hi hn s0 s1 s2 s3 (by omega) hvi)
  have HL := Lib.hid hL
  have i0 : (0 : Int) ≤ (i : Int) := Int.natCast_nonneg i
  have i1 : (i : Int) < 65 := by omega
  have x0 : (0 : Int) ≤ (x : Int) := Int.natCast_nonneg x
  clear hS hv hvi hpb
  go_enter Try.func11, Try.ntmps11
  go_wp2_with (refine wpList_load_row rfl 28 _ rfl w.heap.size rfl 28 _ (0, 0) _ HA.out Try.underlying28 rfl HSZ.out ?_)
  refine (has_yes HL.out i _ (by omega) (by omega) hn).mono ?_
  rintro e w1 ⟨rfl, hb1⟩
  have hB1 : Below w.heap.size w w1 := Below.step (by go_grown) hb1
  have HA1 := Lib.hid ((hb1.block w.heap.size (by simp)).trans HA.out)
  have hl1 : w.heap.size < w1.heap.size := by have := hb1.size; simp at this; omega
  clear hb1 hL
  go_wp2_with (refine wpList_load_row rfl 28 _ rfl w.heap.size rfl 28 _ (0, 0) _ HA1.out Try.underlying28 rfl HSZ.out ?_)
  refine (HF.out _).mono ?_
  rintro e w2 ⟨rfl, hb2⟩
  have hB2 : Below w.heap.size w w2 := Below.step hB1 hb2
  have HA2 := Lib.hid ((hb2.block w.heap.size hl1).trans HA1.out)
  have hK : Cb w w.heap.size cs w2.drew := ⟨HA2.out, Below.drew hB2⟩
  clear hb2
  go_wp2_with fail
  refine region_cb (by kernel_rfl) (by kernel_rfl) hK ?_
  clear hK
  iterate 1 (first | go_big_quiet_skip | (go_big_quiet_want; go_big_quiet_op; first | go_big_quiet_on | (refine ⟨_, fun _ _ => rfl, ?_⟩; go_big_quiet_on)))
  go_big_quiet_want
  refine ⟨.agg cs, fun wq hq => quiet_row 28 _ rfl w.heap.size rfl 28 cs (0, 0) _ hq.1 Try.underlying28 rfl HSZ.out, ?_⟩
  simp only [Act.put, List.setIfInBounds_toArray, List.set_cons_zero, List.set_cons_succ]
  go_big_quiet_on
  iterate 1 (first | go_big_quiet_skip | (go_big_quiet_want; go_big_quiet_op; first | go_big_quiet_on | (refine ⟨_, fun _ _ => rfl, ?_⟩; go_big_quiet_on)))
  go_big_quiet_want
  go_big_quiet_op
  refine ⟨_, fun wq hq => call_cb HM.out hq, ?_⟩
  go_big_quiet_on
  iterate 3 (first | go_big_quiet_skip | (go_big_quiet_want; go_big_quiet_op; first | go_big_quiet_on | (refine ⟨_, fun _ _ => rfl, ?_⟩; go_big_quiet_on)))
  go_big_quiet_want
  refine ⟨.int .u8 (s i), fun wq hq => ?_, ?_⟩
  · have c1 : wq.cell? ⟨w.heap.size, 1 + i, none⟩ = some (.int .u8 (s i)) := by rw [cell_of_row _ _ _ _ _ _ hq.1]; exact HL.out.at_ i (by omega)
    unfold Oper.quietAt
    simp [go_sem, c1, Oper.quietUpon]
  simp only [Act.put, List.setIfInBounds_toArray, List.set_cons_zero, List.set_cons_succ]
  go_big_quiet_on
  iterate 3 (first | go_big_quiet_skip | (go_big_quiet_want; go_big_quiet_op; first | go_big_quiet_on | (refine ⟨_, fun _ _ => rfl, ?_⟩; go_big_quiet_on)))
  refine wpQuiet_nil ?_
  intro wz hz
  have hBz := hz.2
  have c1 : wz.cell? ⟨w.heap.size, 1 + i, none⟩ = some (.int .u8 (s i)) := by rw [cell_of_row _ _ _ _ _ _ hz.1]; exact HL.out.at_ i (by omega)
  clear hz
  go_wp2
  go_ret2
  exact ⟨by unfold wth; rw [← HG.out]; rfl, hBz⟩
end Go.Proofs.Ytgeognijglahfaa

/-
  A number's digits, whatever it is.
-/
import Derived.Test.YtafnipgeeampjaaGreatDoorRows
import Derived.Test.YtafnipgeeampjaaGreatDoorKit
import Derived.Test.YtafnipgeeampjaaGreatDoorApp
import Derived.Test.YtafnipgeeampjaaGreatDoorQuiet
import Derived.WalkKit
import Derived.ProofKit
import Derived.OpenShut
import Derived.ShutString
import Derived.Below
import Derived.Outline
import Derived.WalkLawsBesides
import Derived.WalkSpells
import Derived.Handy
import Derived.Deep.QuietTactic
import Derived.BigQuiet
import Derived.RegionTactic
import Derived.ChangeAlike
import Derived.Lib.Hide
import Derived.Laws.Rows
import Derived.Laws.Tables
import Derived.Laws.CopyOwn
import Derived.Laws.MakeOwn
import Derived.Laws.Entries
import Derived.Laws.OwnMore
import Derived.Deep.WholeRow
import Derived.Deep.LoopGhost
import Derived.Deep.AppendLies
import Derived.Deep.Draws
import Derived.Maps.AppendAt
import Derived.OwnWalk
import Derived.Deep.RegionHeld3
import Derived.Deep.Cut
import Derived.Deep.CutRange
import Derived.Deep.DeepCutAuto
import Derived.Deep.CutBlock
import Derived.Lib.SliceRun
import Derived.IntWalk
import Derived.Laws.Strings
import Derived.Lib.Bytealg
import Derived.Lib.Strings
import Derived.Laws.Externs
import Derived.Test.YtafnipgeeampjaaGreatDoorLnG
namespace Go.Proofs.YtafnipgeeampjaaGreatDoor
open Go.ChangeShapes Go.WideShapes Go.ChangeAt Go.RowKit
/-- A number's digits, a '-' ahead of them where it is below zero. -/
def itl (n : Int) : List UInt8 := if n < 0 then 45 :: dcl n.natAbs else dcl n.toNat
theorem dcl_len19 (n : Nat) (h : n ≤ 9223372036854775808) : (dcl n).length ≤ 19 := dcl_len 18 n (by omega)
theorem itl_len (n : Int) (h0 : -9223372036854775808 ≤ n) (h1 : n ≤ 9223372036854775807) : (itl n).length ≤ 20 := by
  unfold itl
  split
  · have := dcl_len19 n.natAbs (by omega)
    simp; omega
  · have := dcl_len19 n.toNat (by omega)
    omega
set_option maxRecDepth 100000 in
set_option maxHeartbeats 1000000 in
theorem decimal_pos : ∀ (n : Nat) (_ : n ≤ 9223372036854775807) (w : World), Calls Tryz.prog 12 #[.int .i64 (n : Int)] w fun e w' => e = .returned (.string (Bs (dcl n))) ∧ Below w.heap.size w w' := by
  intro n
  induction n using Nat.strongRecOn with
  | ind n ih =>
    intro hn w
    have h0 : (0 : Int) ≤ (n : Int) := by omega
    by_cases h : n < 10
    · have HD := Lib.hid (fun w => digit_is n h w)
      have h2 : (n : Int) < 10 := by omega
      have HX := Lib.hid (dcl_small h)
      clear ih h hn
      go_enter Tryz.func12, Tryz.ntmps12
      go_wp2_with fail
      refine (HD.out _).mono ?_
      rintro e w' ⟨rfl, hb⟩
      go_wp2_with fail
      go_ret
      exact ⟨by rw [HX.out]; rfl, hb⟩
    · have hi1 := ih (n / 10) (by omega) (by omega)
      have hd1 := fun w => digit_is (n % 10) (by omega) w
      rw [show ((n / 10 : Nat) : Int) = (n : Int) / 10 from by omega] at hi1
      rw [show ((n % 10 : Nat) : Int) = (n : Int) % 10 from by omega] at hd1
      have HI := Lib.hid hi1
      have HD := Lib.hid hd1
      have HX := Lib.hid (dcl_big h)
      have h2 : decide ((n : Int) < 10) = false := decide_eq_false (by omega)
      have HL := Lib.hid (dcl_len19 (n / 10) (by omega))
      obtain ⟨m, hm⟩ : ∃ m : Int, m = (n : Int) := ⟨_, rfl⟩
      have hm2 : m ≤ 9223372036854775807 := by omega
      rw [← hm] at HI HD h0 h2 ⊢
      clear ih h hi1 hd1 hn hm
      generalize dcl (n / 10) = L1 at HI HX HL
      generalize dg (n % 10) = d1 at HD HX
      generalize dcl n = L0 at HX ⊢
      go_enter Tryz.func12, Tryz.ntmps12
      go_wp2_with fail
      refine (HI.out _).mono ?_
      rintro e w1 ⟨rfl, hb1⟩
      go_wp2_with fail
      refine (HD.out _).mono ?_
      rintro e w2 ⟨rfl, hb2⟩
      have HB := Lib.hid (Below.step hb1 hb2)
      have hs1 : (Bs L1).size = L1.length := Bs_size L1
      have hs2 : (Bs [d1]).size = 1 := Bs_size _
      have hl := HL.out
      clear hb1 hb2
      go_wp2_with fail
      go_ret
      exact ⟨by rw [HX.out]; rfl, HB.out⟩
set_option maxRecDepth 100000 in
set_option maxHeartbeats 1000000 in
theorem decimal_neg : ∀ (k : Nat) (_ : 1 ≤ k) (_ : k ≤ 9223372036854775808) (w : World), Calls Tryz.prog 12 #[.int .i64 (-(k : Int))] w fun e w' => e = .returned (.string (Bs (45 :: dcl k))) ∧ Below w.heap.size w w' := by
  intro k
  induction k using Nat.strongRecOn with
  | ind k ih =>
    intro hk1 hk2 w
    obtain ⟨n, hn⟩ : ∃ n : Int, n = -(k : Int) := ⟨_, rfl⟩
    have h0 : n < 0 := by omega
    have hq : n.tdiv 10 = -((k / 10 : Nat) : Int) := by rw [hn, Int.neg_tdiv]; congr 1
    have hr : n.tmod 10 = -((k % 10 : Nat) : Int) := by rw [hn, Int.neg_tmod]; congr 1
    by_cases h : k < 10
    · have hz : n.tdiv 10 = 0 := by rw [hq]; omega
      have HD := Lib.hid (fun w => digit_is k h w)
      have HX := Lib.hid (dcl_small h)
      have hneg : -n = (k : Int) := by omega
      have lo : -9 ≤ n := by omega
      rw [← hneg] at HD
      rw [← hn]
      generalize dg k = d1 at HD HX
      generalize dcl k = L0 at HX ⊢
      clear ih h hk1 hk2 hq hr hn hneg
      go_enter Tryz.func12, Tryz.ntmps12
      go_wp2_with fail
      refine (HD.out _).mono ?_
      rintro e w' ⟨rfl, hb⟩
      have hs2 : (Bs [d1]).size = 1 := Bs_size _
      go_wp2_with fail
      go_ret
      refine ⟨?_, hb⟩
      rw [HX.out, show (45 :: [d1] : List UInt8) = [45] ++ [d1] from rfl, ← Bs_append]; rfl
    · obtain ⟨Q, hQ⟩ : ∃ Q : Int, Q = n.tdiv 10 := ⟨_, rfl⟩
      obtain ⟨R, hR⟩ : ∃ R : Int, R = n.tmod 10 := ⟨_, rfl⟩
      have hi1 := ih (k / 10) (by omega) (by omega) (by omega)
      have hd1 := fun w => digit_is (k % 10) (by omega) w
      rw [← hq, ← hQ] at hi1
      rw [show ((k % 10 : Nat) : Int) = -R from by rw [hR, hr]; omega] at hd1
      have HI := Lib.hid hi1
      have HD := Lib.hid hd1
      have HX := Lib.hid (dcl_big h)
      have HL := Lib.hid (dcl_len19 (k / 10) (by omega))
      have q0 : (Q == 0) = false := beq_eq_false_iff_ne.2 (by rw [hQ, hq]; omega)
      have q1 : -922337203685477581 ≤ Q := by rw [hQ, hq]; omega
      have q2 : Q < 0 := by rw [hQ, hq]; omega
      have r1 : -9 ≤ R := by rw [hR, hr]; omega
      have r2 : R ≤ 0 := by rw [hR, hr]; omega
      have lo : -9223372036854775808 ≤ n := by omega
      have hQ' : n.tdiv 10 = Q := hQ.symm
      have hR' : n.tmod 10 = R := hR.symm
      rw [← hn]
      clear ih h hk1 hk2 hq hr hn hi1 hd1 hQ hR
      generalize dcl (k / 10) = L1 at HI HX HL
      generalize dg (k % 10) = d1 at HD HX
      generalize dcl k = L0 at HX ⊢
      go_enter Tryz.func12, Tryz.ntmps12
      go_wp2_with fail
      refine (HI.out _).mono ?_
      rintro e w1 ⟨rfl, hb1⟩
      go_wp2_with fail
      refine (HD.out _).mono ?_
      rintro e w2 ⟨rfl, hb2⟩
      have HB := Lib.hid (Below.step hb1 hb2)
      have hs1 : (Bs (45 :: L1)).size = L1.length + 1 := by rw [Bs_size]; rfl
      have hs2 : (Bs [d1]).size = 1 := Bs_size _
      have hl := HL.out
      clear hb1 hb2
      go_wp2_with fail
      go_ret
      refine ⟨?_, HB.out⟩
      rw [HX.out, show (45 :: (L1 ++ [d1]) : List UInt8) = (45 :: L1) ++ [d1] from rfl, ← Bs_append]; rfl
theorem decimal_any (n : Int) (h0 : -9223372036854775808 ≤ n) (h1 : n ≤ 9223372036854775807) (w : World) : Calls Tryz.prog 12 #[.int .i64 n] w fun e w' => e = .returned (.string (Bs (itl n))) ∧ Below w.heap.size w w' := by
  unfold itl
  by_cases h : n < 0
  · rw [if_pos h]
    have := decimal_neg n.natAbs (by omega) (by omega) w
    rw [show -((n.natAbs : Nat) : Int) = n by omega] at this
    exact this
  · rw [if_neg h]
    have := decimal_pos n.toNat (by omega) w
    rw [show ((n.toNat : Nat) : Int) = n by omega] at this
    exact this

end Go.Proofs.YtafnipgeeampjaaGreatDoor

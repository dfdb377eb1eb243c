/-
  The document's Band and Shard.
-/
import Derived.Test.YtafignfoejefjaaRows
import Derived.Test.YtafignfoejefjaaKit
import Derived.Test.YtafignfoejefjaaApp
import Derived.Test.YtafignfoejefjaaQuiet
import Derived.WalkKit
import Derived.ProofKit
import Derived.OpenShut
import Derived.ShutString
import Derived.Below
import Derived.Outline
import Derived.WalkLawsBesides
import Derived.WalkSpells
import Derived.Handy
import Derived.Deep.QuietTactic
import Derived.BigQuiet
import Derived.RegionTactic
import Derived.ChangeAlike
import Derived.Lib.Hide
import Derived.Laws.Rows
import Derived.Laws.Tables
import Derived.Laws.CopyOwn
import Derived.Laws.MakeOwn
import Derived.Laws.Entries
import Derived.Laws.OwnMore
import Derived.Deep.WholeRow
import Derived.Deep.LoopGhost
import Derived.Deep.AppendLies
import Derived.Deep.Draws
import Derived.Maps.AppendAt
import Derived.OwnWalk
import Derived.Deep.RegionHeld3
import Derived.Deep.Cut
import Derived.Deep.CutRange
import Derived.Deep.DeepCutAuto
import Derived.Deep.CutBlock
import Derived.Lib.SliceRun
import Derived.IntWalk
import Derived.Test.YtafignfoejefjaaBkM
import Derived.Test.YtafignfoejefjaaBkO
import Derived.Test.YtafignfoejefjaaBkP
import Derived.Test.YtafignfoejefjaaBkQ
import Derived.Test.YtafignfoejefjaaBkL
import Derived.Test.YtafignfoejefjaaBkR
import Derived.Test.YtafignfoejefjaaBkS
namespace Go.Proofs.Ytafignfoejefjaa
open Go.ChangeShapes Go.WideShapes Go.ChangeAt Go.RowKit
theorem addp0 (a : Addr) (x y : Nat) (w : World) (u v : Value) (hs : w.cell? (a.add x) = some u) (h : w.cell? (a.add (x + y)) = some v) (hy : y ≠ 0) : w.cell? ⟨(a.add x).block, (a.add x).off + y, none⟩ = some v := by
  rw [← addp _ y hy (World.cell?_spot hs), add_of_add]; exact h
set_option maxHeartbeats 2000000 in
theorem band5_is (p c n b r f g : Int) (x : Int) (h3 : 1 ≤ b) (h4 : b ≤ 4) (x0 : 1 ≤ x) (x1 : x ≤ 9999) (w : World) : Calls Try.prog 42 #[.agg #[.int .i64 p, .int .i64 c, .int .i64 n, .int .i64 b, .int .i64 r, .int .i64 f, .int .i64 g], .int .i64 x] w fun e w' => e = .returned (.int .i64 ((x - 1) * b / 9999)) ∧ Below w.heap.size w w' := by
  have m0 : 0 ≤ (x - 1) * b := by rcases (show b = 1 ∨ b = 2 ∨ b = 3 ∨ b = 4 by omega) with rfl | rfl | rfl | rfl <;> omega
  have m1 : (x - 1) * b ≤ 40000 := by rcases (show b = 1 ∨ b = 2 ∨ b = 3 ∨ b = 4 by omega) with rfl | rfl | rfl | rfl <;> omega
  obtain ⟨V, hV⟩ : ∃ V, V = (x - 1) * b / 9999 := ⟨_, rfl⟩
  have HV := Lib.hid hV
  have b0 := (Bl.new w [.int .i64 p, .int .i64 c, .int .i64 n, .int .i64 b, .int .i64 r, .int .i64 f, .int .i64 g] 23).cell 3 _ rfl
  have g0 : Below w.heap.size w (w.alloc (.cells (List.toArray [.int .i64 p, .int .i64 c, .int .i64 n, .int .i64 b, .int .i64 r, .int .i64 f, .int .i64 g]) 23)) := by go_grown
  have HB := Lib.hid g0
  rw [← hV]
  clear hV g0
  go_enter Try.func42, Try.ntmps42
  go_wp2_with fail
  obtain ⟨W, hW⟩ : ∃ W, W = w.alloc (.cells (List.toArray [.int .i64 p, .int .i64 c, .int .i64 n, .int .i64 b, .int .i64 r, .int .i64 f, .int .i64 g]) 23) := ⟨_, rfl⟩
  rw [← hW] at b0 HB ⊢
  clear hW
  go_loop [5] (fun v => ∃ k : Nat, (k : Int) ≤ V ∧ v = .int .i64 (k : Int)) (fun v => V.toNat + 1 - (intOf v).toNat)
  case atStart => exact ⟨0, by have := HV.out; omega, rfl⟩
  case round =>
    obtain ⟨k, hk, rfl⟩ := hrel
    have k0 : (0 : Int) ≤ (k : Int) := by omega
    have k1 : (k : Int) ≤ 4 := by have := HV.out; omega
    by_cases hlt : (k : Int) < V
    · have ht : ((k : Int) + 1) * 9999 ≤ (x - 1) * b := by have := HV.out; omega
      have Hk := Lib.hid hlt
      clear hlt hk
      go_wp2_with fail
      go_round
      case rel => exact ⟨k + 1, by have := Hk.out; omega, by go_num⟩
      case measure => have := Hk.out; simp [intOf]; omega
    · have ht : ¬ ((k : Int) + 1) * 9999 ≤ (x - 1) * b := by have := HV.out; omega
      have hkV : (k : Int) = V := by omega
      have HK := Lib.hid hkV
      have ht2 : (x - 1) * b < ((k : Int) + 1) * 9999 := by omega
      have ht3 : decide (((k : Int) + 1) * 9999 ≤ (x - 1) * b) = false := decide_eq_false ht
      clear ht hlt hk hkV
      go_wp2_with fail
      go_ret
      exact ⟨by rw [← HK.out]; rfl, HB.out⟩
set_option maxHeartbeats 2000000 in
theorem sh7_is (p c n b r f g : Int) (tn ts tp tl tu : Int) (hn : 1 ≤ n ∧ n ≤ 3) (hb : 1 ≤ b ∧ b ≤ 4) (x0 : 1 ≤ tp) (x1 : tp ≤ 9999) (w : World) : Calls Try.prog 28 #[.agg #[.int .i64 p, .int .i64 c, .int .i64 n, .int .i64 b, .int .i64 r, .int .i64 f, .int .i64 g], .agg #[.int .i64 tn, .int .i64 ts, .int .i64 tp, .int .i64 tl, .int .i64 tu]] w fun e w' => e = .returned (.int .i64 (sh n b tn tp)) ∧ Below w.heap.size w w' := by
  have HB5 := Lib.hid (fun W => band5_is p c n b r f g tp hb.1 hb.2 x0 x1 W)
  obtain ⟨v0, v1⟩ := band_num hb.1 hb.2 x0 x1
  have c0 : (Bl w.heap.size [.int .i64 p, .int .i64 c, .int .i64 n, .int .i64 b, .int .i64 r, .int .i64 f, .int .i64 g] ((w.alloc (.cells (List.toArray [.int .i64 p, .int .i64 c, .int .i64 n, .int .i64 b, .int .i64 r, .int .i64 f, .int .i64 g]) 23)).alloc (.cells (List.toArray [.int .i64 tn, .int .i64 ts, .int .i64 tp, .int .i64 tl, .int .i64 tu]) 48))) := (Bl.new w [.int .i64 p, .int .i64 c, .int .i64 n, .int .i64 b, .int .i64 r, .int .i64 f, .int .i64 g] 23).below (by go_grown)
  have c1 := Bl.new (w.alloc (.cells (List.toArray [.int .i64 p, .int .i64 c, .int .i64 n, .int .i64 b, .int .i64 r, .int .i64 f, .int .i64 g]) 23)) [.int .i64 tn, .int .i64 ts, .int .i64 tp, .int .i64 tl, .int .i64 tu] 48
  rw [World.size_alloc] at c1
  have g0 : Below w.heap.size w ((w.alloc (.cells (List.toArray [.int .i64 p, .int .i64 c, .int .i64 n, .int .i64 b, .int .i64 r, .int .i64 f, .int .i64 g]) 23)).alloc (.cells (List.toArray [.int .i64 tn, .int .i64 ts, .int .i64 tp, .int .i64 tl, .int .i64 tu]) 48)) := by go_grown
  obtain ⟨W, hW⟩ : ∃ W, W = (w.alloc (.cells (List.toArray [.int .i64 p, .int .i64 c, .int .i64 n, .int .i64 b, .int .i64 r, .int .i64 f, .int .i64 g]) 23)).alloc (.cells (List.toArray [.int .i64 tn, .int .i64 ts, .int .i64 tp, .int .i64 tl, .int .i64 tu]) 48) := ⟨_, rfl⟩
  rw [← hW] at c0 c1 g0
  have HW := Lib.hid hW
  have HC := Lib.hid (And.intro c0 (And.intro c1 g0))
  clear hW
  have hsh : (0 ≤ tn ∧ tn < n → sh n b tn tp = tn * b + (tp - 1) * b / 9999) ∧ (¬ (0 ≤ tn ∧ tn < n) → sh n b tn tp = -1) := ⟨fun h => by unfold sh; rw [if_pos h], fun h => by unfold sh; rw [if_neg h]⟩
  have HSH := Lib.hid hsh
  clear hsh x0 x1 c0 c1 g0
  generalize (tp - 1) * b / 9999 = V at *
  generalize sh n b tn tp = S at *
  have b2 : b ≤ 4 := hb.2
  have HNB := Lib.hid (And.intro hn hb)
  clear hn hb
  go_enter Try.func28, Try.ntmps28
  go_wp2_with fail
  rw [← HW.out]
  refine (HB5.out _).mono ?_
  rintro e1 w1 ⟨rfl, hb1⟩
  have n2 := (HC.out.1.below hb1).cell 2 _ rfl
  have n3 := (HC.out.1.below hb1).cell 3 _ rfl
  have t0 := (HC.out.2.1.below hb1).cell 0 _ rfl
  have hg := Below.step HC.out.2.2 hb1
  have HG := Lib.hid hg
  clear hb1 hg
  by_cases h0 : tn < 0
  · have hS : S = -1 := HSH.out.2 (by omega)
    have HS := Lib.hid hS
    clear hS
    go_wp2_with fail
    go_ret
    exact ⟨by rw [HS.out]; rfl, HG.out⟩
  · by_cases h1 : n ≤ tn
    · have hS : S = -1 := HSH.out.2 (by omega)
      have HS := Lib.hid hS
      have d0 : decide (tn < 0) = false := decide_eq_false h0
      clear hS h0
      go_wp2_with fail
      go_ret
      exact ⟨by rw [HS.out]; rfl, HG.out⟩
    · have hS : S = tn * b + V := HSH.out.1 (by omega)
      have HS := Lib.hid hS
      have d0 : decide (tn < 0) = false := decide_eq_false h0
      have d1 : decide (n ≤ tn) = false := decide_eq_false h1
      have d2 : decide (V < 0) = false := decide_eq_false (by omega)
      have m0 : 0 ≤ tn * b := Int.mul_nonneg (by omega) (by omega)
      have m1 : tn * b ≤ 24 := by obtain ⟨hn, hb⟩ := HNB.out; rcases (show b = 1 ∨ b = 2 ∨ b = 3 ∨ b = 4 by omega) with rfl | rfl | rfl | rfl <;> omega
      clear hS h0 h1
      go_wp2_with fail
      go_ret
      exact ⟨by rw [HS.out]; rfl, HG.out⟩
end Go.Proofs.Ytafignfoejefjaa

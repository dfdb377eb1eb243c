/-
  Single events are left out of a script.
-/
import Derived.Test.YtfdjbhlpkfbgnaaRows
import Derived.Test.YtfdjbhlpkfbgnaaKit
import Derived.Test.YtfdjbhlpkfbgnaaApp
import Derived.Test.YtfdjbhlpkfbgnaaQuiet
import Derived.Test.YtfdjbhlpkfbgnaaShM
import Derived.Test.YtfdjbhlpkfbgnaaShO
import Derived.Test.YtfdjbhlpkfbgnaaShB
import Derived.Test.YtfdjbhlpkfbgnaaShC
import Derived.Test.YtfdjbhlpkfbgnaaShD
import Derived.Test.YtfdjbhlpkfbgnaaShE
import Derived.Test.YtfdjbhlpkfbgnaaShU
import Derived.Test.YtfdjbhlpkfbgnaaShV
import Derived.Test.YtfdjbhlpkfbgnaaShA
import Derived.Test.YtfdjbhlpkfbgnaaShF
import Derived.WalkKit
import Derived.ProofKit
import Derived.OpenShut
import Derived.ShutString
import Derived.Below
import Derived.Outline
import Derived.WalkLawsBesides
import Derived.WalkSpells
import Derived.Handy
import Derived.Deep.QuietTactic
import Derived.BigQuiet
import Derived.RegionTactic
import Derived.ChangeAlike
import Derived.Lib.Hide
import Derived.Laws.Rows
import Derived.Laws.Tables
import Derived.Laws.CopyOwn
import Derived.Laws.MakeOwn
import Derived.Laws.Entries
import Derived.Laws.OwnMore
import Derived.Deep.WholeRow
import Derived.Deep.LoopGhost
import Derived.Deep.AppendLies
import Derived.Deep.Draws
import Derived.Maps.AppendAt
import Derived.OwnWalk
import Derived.Deep.RegionHeld3
import Derived.Deep.Cut
import Derived.Deep.CutRange
import Derived.Deep.DeepCutAuto
import Derived.Deep.CutBlock
import Derived.Lib.SliceRun
import Derived.IntWalk
namespace Go.Proofs.Ytfdjbhlpkfbgnaa
open Go.ChangeShapes Go.WideShapes Go.ChangeAt Go.RowKit
set_option maxRecDepth 100000 in
set_option maxHeartbeats 400000 in
theorem single_is (W0 : World) (HB : Nat) (P : List Evn → Bool) (hA : AskOk W0 HB P) (base0 N0 c0 : Nat) (A0 : Option Addr) (l : List Evn) (w : World) (hw : Below W0.heap.size W0 w) (h : w.ownsRow base0 38 12 (.slice A0 N0 c0) N0 (nv l)) (hn : N0 = l.length) (hl : N0 ≤ 60) (hP : P l = true) : Calls Try.prog 22 #[.slice A0 N0 c0, .func (.func 26) #[] #[.pointer (some ⟨HB, 0, none⟩)]] w fun e w' => ∃ v x, e = .returned v ∧ OwnE w' x v ∧ x.Sublist l ∧ P x = true ∧ Least P x ∧ Below w.heap.size w w' := by
  have HA := Lib.hid hA
  have HW := Lib.hid hw
  have H0 := Lib.hid (And.intro h (And.intro hn hP))
  clear hA hw h hn hP
  go_enter Try.func22, Try.ntmps22
  go_wp2_with fail
  go_loopg [0, 5, 6, 7] (100 * N0 + N0) (fun gk lv av kv le wr => ∃ (a k N c : Nat) (A : Option Addr), gk = 100 * N + (N - k) ∧ lv = .slice A N c ∧ av = .int .i64 (a : Int) ∧ kv = .int .i64 (k : Int) ∧ k ≤ N ∧ a ≤ N ∧ N ≤ 60 ∧ Hid (∃ (base : Nat) (x : List Evn), N = x.length ∧ wr.ownsRow base 38 12 (.slice A N c) N (nv x) ∧ x.Sublist l ∧ P x = true ∧ Tried P x a k ∧ Below w.heap.size w wr))
  case atStart => exact ⟨0, 0, N0, c0, A0, by omega, rfl, rfl, rfl, by omega, by omega, hl, Lib.hid ⟨base0, l, H0.out.2.1, H0.out.1, List.Sublist.refl _, H0.out.2.2, Tried.start P l 0 (Nat.zero_le _), Below.refl _ _⟩⟩
  case round =>
    obtain ⟨a, k, N, c, A, rfl, rfl, rfl, rfl, hk, haN, hN, HS⟩ := hrel
    clear H0
    have k0 : (0 : Int) ≤ (k : Int) := by omega
    have a0 : (0 : Int) ≤ (a : Int) := by omega
    by_cases hkN : k < N
    · have k1 : (k : Int) < (N : Int) := by omega
      obtain ⟨base, x, hNx, ho, hsub, hPx, htr, hb⟩ := HS.out
      obtain ⟨b, hab, hbN, htr2⟩ : ∃ b : Nat, (a : Int).tmod (N : Int) = (b : Int) ∧ b < N ∧ Tried P x b k := by
        by_cases he : a < N
        · exact ⟨a, by rw [Int.tmod_eq_of_lt (by omega) (by omega)], he, htr⟩
        · have ha2 : a = N := by omega
          refine ⟨0, by rw [ha2]; simp, by omega, ?_⟩
          rw [ha2, hNx] at htr
          exact htr.round
      have N1 : ¬ ((N : Int) = 0) := by omega
      have N2 : ¬ ((N : Int) = -1) := by omega
      have b0 : (0 : Int) ≤ (b : Int) := by omega
      have W1 : IntKind.i64.wrap ((b : Int) + 1) = (b : Int) + 1 := IntWalk.i64_in _ (by omega)
      have W2 : IntKind.i64.wrap ((k : Int) + 1) = (k : Int) + 1 := IntWalk.i64_in _ (by omega)
      have W3 : IntKind.i64.wrap (b : Int) = (b : Int) := IntWalk.i64_in _ (by omega)
      have HC := Lib.hid (cut_is base A N c b (b + 1) x wr ho hNx (by omega) (by omega) (by omega) hN)
      have hYL := erase_len x b (b + 1) (by omega) (by omega)
      have hYS := cut_sub x b (b + 1) (by omega)
      rw [Int.natCast_add] at HC
      rw [cut_erase x b (by omega)] at HC hYL hYS
      have HT := Lib.hid (show P (x.eraseIdx b) = false → Tried P x (b + 1) (k + 1) from htr2.fail)
      generalize x.eraseIdx b = Y at *
      have HY := Lib.hid (And.intro (hYS.trans hsub) (And.intro hYL hb))
      have hYN : Y.length < N := by omega
      have HYB := Lib.hid (show b ≤ Y.length from by omega)
      have HKE := Lib.hid (And.intro ho (And.intro hNx (And.intro hsub (And.intro hPx hb))))
      clear hYL hYS ho hNx hsub hPx hb HS htr htr2
      generalize hNY : Y.length = NY at *
      have HNY := Lib.hid hNY
      clear hNY
      go_wp2_with fail
      refine HC.out.mono ?_
      rintro e1 w1 ⟨A1, c1, rfl, ho1, hb1⟩
      have HB1 := Lib.hid hb1
      have HQ := Lib.hid (HA.out w1 _ NY c1 A1 Y (Below.step (Below.step HW.out HY.out.2.2) hb1) ho1 HNY.out.symm (by omega))
      have HO1 := Lib.hid ho1
      clear hb1 ho1 HC
      cases hpy : P Y
      · rw [hpy] at HQ
        have HPY := Lib.hid hpy
        clear hpy
        go_wp2_with fail
        refine HQ.out.mono ?_
        rintro e2 w2 ⟨rfl, hb2⟩
        have HB2 := Lib.hid hb2
        clear hb2
        go_wp2_with fail
        go_roundg (100 * N + (N - (k + 1)))
        case measure => omega
        case rel =>
          obtain ⟨h1, h2, h3, h4, h5⟩ := HKE.out
          exact ⟨b + 1, k + 1, N, c, A, rfl, rfl, by go_num, by go_num, by omega, by omega, hN, Lib.hid ⟨base, x, h2, rkept (rkept h1 HB1.out) HB2.out, h3, h4, HT.out HPY.out, Below.step (Below.step h5 HB1.out) HB2.out⟩⟩
      · rw [hpy] at HQ
        have HPY := Lib.hid hpy
        clear hpy
        go_wp2_with fail
        refine HQ.out.mono ?_
        rintro e2 w2 ⟨rfl, hb2⟩
        have HB2 := Lib.hid hb2
        clear hb2
        go_wp2_with fail
        go_roundg (100 * NY + (NY - 0))
        case measure => omega
        case rel =>
          exact ⟨b, 0, NY, c1, A1, rfl, rfl, rfl, rfl, by omega, HYB.out, by omega, Lib.hid ⟨_, Y, HNY.out.symm, rkept HO1.out HB2.out, HY.out.1, HPY.out, Tried.start P Y b (by rw [HNY.out]; exact HYB.out), Below.step (Below.step HY.out.2.2 HB1.out) HB2.out⟩⟩
    · have k1 : ¬ ((k : Int) < (N : Int)) := by omega
      go_wp2_with fail
      go_ret
      obtain ⟨base, x, hNx, ho, hsub, hPx, htr, hb⟩ := HS.out
      have hkN2 : k = N := by omega
      subst hkN2
      subst hNx
      exact ⟨_, rfl, x, ⟨base, A, c, rfl, ho⟩, hsub, hPx, htr.all haN, hb⟩
end Go.Proofs.Ytfdjbhlpkfbgnaa

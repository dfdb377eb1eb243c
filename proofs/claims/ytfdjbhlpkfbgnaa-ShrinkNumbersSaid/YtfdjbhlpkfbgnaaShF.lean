/-
  Pieces and single events are left out of a script.
-/
import Derived.Test.YtfdjbhlpkfbgnaaRows
import Derived.Test.YtfdjbhlpkfbgnaaKit
import Derived.Test.YtfdjbhlpkfbgnaaApp
import Derived.Test.YtfdjbhlpkfbgnaaQuiet
import Derived.Test.YtfdjbhlpkfbgnaaShM
import Derived.Test.YtfdjbhlpkfbgnaaShO
import Derived.Test.YtfdjbhlpkfbgnaaShB
import Derived.Test.YtfdjbhlpkfbgnaaShC
import Derived.Test.YtfdjbhlpkfbgnaaShD
import Derived.Test.YtfdjbhlpkfbgnaaShE
import Derived.Test.YtfdjbhlpkfbgnaaShU
import Derived.Test.YtfdjbhlpkfbgnaaShV
import Derived.Test.YtfdjbhlpkfbgnaaShA
import Derived.WalkKit
import Derived.ProofKit
import Derived.OpenShut
import Derived.ShutString
import Derived.Below
import Derived.Outline
import Derived.WalkLawsBesides
import Derived.WalkSpells
import Derived.Handy
import Derived.Deep.QuietTactic
import Derived.BigQuiet
import Derived.RegionTactic
import Derived.ChangeAlike
import Derived.Lib.Hide
import Derived.Laws.Rows
import Derived.Laws.Tables
import Derived.Laws.CopyOwn
import Derived.Laws.MakeOwn
import Derived.Laws.Entries
import Derived.Laws.OwnMore
import Derived.Deep.WholeRow
import Derived.Deep.LoopGhost
import Derived.Deep.AppendLies
import Derived.Deep.Draws
import Derived.Maps.AppendAt
import Derived.OwnWalk
import Derived.Deep.RegionHeld3
import Derived.Deep.Cut
import Derived.Deep.CutRange
import Derived.Deep.DeepCutAuto
import Derived.Deep.CutBlock
import Derived.Lib.SliceRun
import Derived.IntWalk
namespace Go.Proofs.Ytfdjbhlpkfbgnaa
open Go.ChangeShapes Go.WideShapes Go.ChangeAt Go.RowKit
/-- A value that is a script of one's own. -/
def OwnE (w : World) (l : List Evn) (v : Value) : Prop := ∃ (base : Nat) (A : Option Addr) (c : Nat), v = .slice A l.length c ∧ w.ownsRow base 38 12 (.slice A l.length c) l.length (nv l)
theorem OwnE.below {w w' : World} {l : List Evn} {v : Value} (h : OwnE w l v) (hb : Below w.heap.size w w') : OwnE w' l v := by
  obtain ⟨b, A, c, rfl, ho⟩ := h
  exact ⟨b, A, c, rfl, rkept ho hb⟩
theorem erase_len (x : List Evn) (k J : Nat) (hJ : J ≤ x.length) (hk : k ≤ J) : (x.take k ++ x.drop J).length = x.length - (J - k) := by
  rw [List.length_append, List.length_take, List.length_drop]
  omega
set_option maxRecDepth 100000 in
set_option maxHeartbeats 400000 in
theorem without_is (W0 : World) (HB : Nat) (P : List Evn → Bool) (hA : AskOk W0 HB P) (base0 N0 c0 : Nat) (A0 : Option Addr) (l : List Evn) (size : Nat) (w : World) (hw : Below W0.heap.size W0 w) (h : w.ownsRow base0 38 12 (.slice A0 N0 c0) N0 (nv l)) (hn : N0 = l.length) (hl : N0 ≤ 60) (hP : P l = true) (hs : 1 ≤ size) (hs2 : size ≤ 60) : Calls Try.prog 21 #[.slice A0 N0 c0, .int .i64 (size : Int), .func (.func 26) #[] #[.pointer (some ⟨HB, 0, none⟩)]] w fun e w' => ∃ v x, e = .returned v ∧ OwnE w' x v ∧ x.Sublist l ∧ P x = true ∧ Below w.heap.size w w' := by
  have HA := Lib.hid hA
  have HW := Lib.hid hw
  have H0 := Lib.hid (And.intro h (And.intro hn hP))
  have s0 : (0 : Int) ≤ (size : Int) := by omega
  clear hA hw h hn hP
  go_enter Try.func21, Try.ntmps21
  go_wp2_with fail
  go_loopg [0, 7, 8] N0 (fun gk lv fr le wr => ∃ (k N c : Nat) (A : Option Addr), gk = N - k ∧ lv = .slice A N c ∧ fr = .int .i64 (k : Int) ∧ k ≤ 200 ∧ N ≤ 60 ∧ Hid (∃ (base : Nat) (x : List Evn), N = x.length ∧ wr.ownsRow base 38 12 (.slice A N c) N (nv x) ∧ x.Sublist l ∧ P x = true ∧ Below w.heap.size w wr))
  case atStart => exact ⟨0, N0, c0, A0, rfl, rfl, rfl, by omega, hl, Lib.hid ⟨base0, l, H0.out.2.1, H0.out.1, List.Sublist.refl _, H0.out.2.2, Below.refl _ _⟩⟩
  case round =>
    obtain ⟨k, N, c, A, rfl, rfl, rfl, hk, hN, HS⟩ := hrel
    clear H0
    have k0 : (0 : Int) ≤ (k : Int) := by omega
    by_cases hkN : k < N
    · have k1 : (k : Int) < (N : Int) := by omega
      obtain ⟨base, x, hNx, ho, hsub, hPx, hb⟩ := HS.out
      by_cases hlt : N < k + size
      · have hlt2 : (N : Int) < (k : Int) + (size : Int) := by omega
        have W1 : IntKind.i64.wrap ((k : Int) + (size : Int)) = (k : Int) + (size : Int) := IntWalk.i64_in _ (by omega)
        have HC := Lib.hid (cut_is base A N c k N x wr ho hNx (by omega) (Nat.le_refl _) (by omega) hN)
        have hYL := erase_len x k N (by omega) (by omega)
        have hYS := cut_sub x k N (by omega)
        generalize x.take k ++ x.drop N = Y at *
        have hYN : Y.length < N := by omega
        have HY := Lib.hid (And.intro (hYS.trans hsub) (And.intro hYL hb))
        have HKE := Lib.hid (And.intro ho (And.intro hNx (And.intro hsub (And.intro hPx hb))))
        clear hYL hYS ho hNx hsub hPx hb HS
        generalize hNY : Y.length = NY at *
        have HNY := Lib.hid hNY
        clear hNY
        go_wp2_with fail
        refine HC.out.mono ?_
        rintro e1 w1 ⟨A1, c1, rfl, ho1, hb1⟩
        have HB1 := Lib.hid hb1
        have HQ := Lib.hid (HA.out w1 _ NY c1 A1 Y (Below.step (Below.step HW.out HY.out.2.2) hb1) ho1 HNY.out.symm (by omega))
        have HO1 := Lib.hid ho1
        clear hb1 ho1 HC
        cases hpy : P Y
        · rw [hpy] at HQ
          clear hpy
          go_wp2_with fail
          refine HQ.out.mono ?_
          rintro e2 w2 ⟨rfl, hb2⟩
          have HB2 := Lib.hid hb2
          clear hb2
          go_wp2_with fail
          go_roundg (N - (k + size))
          case measure => omega
          case rel =>
            obtain ⟨h1, h2, h3, h4, h5⟩ := HKE.out
            exact ⟨k + size, N, c, A, rfl, rfl, by go_num, by omega, hN, Lib.hid ⟨base, x, h2, rkept (rkept h1 HB1.out) HB2.out, h3, h4, Below.step (Below.step h5 HB1.out) HB2.out⟩⟩
        · rw [hpy] at HQ
          have HPY := Lib.hid hpy
          clear hpy
          go_wp2_with fail
          refine HQ.out.mono ?_
          rintro e2 w2 ⟨rfl, hb2⟩
          have HB2 := Lib.hid hb2
          clear hb2
          go_wp2_with fail
          go_roundg (NY - k)
          case measure => omega
          case rel =>
            exact ⟨k, NY, c1, A1, rfl, rfl, rfl, by omega, by omega, Lib.hid ⟨_, Y, HNY.out.symm, rkept HO1.out HB2.out, HY.out.1, HPY.out, Below.step (Below.step HY.out.2.2 HB1.out) HB2.out⟩⟩
      · have hlt2 : ¬ ((N : Int) < (k : Int) + (size : Int)) := by omega
        have W1 : IntKind.i64.wrap ((k : Int) + (size : Int)) = (k : Int) + (size : Int) := IntWalk.i64_in _ (by omega)
        have HC := Lib.hid (cut_is base A N c k (k + size) x wr ho hNx (by omega) (by omega) (by omega) hN)
        rw [Int.natCast_add] at HC
        have hYL := erase_len x k (k + size) (by omega) (by omega)
        have hYS := cut_sub x k (k + size) (by omega)
        generalize x.take k ++ x.drop (k + size) = Y at *
        have hYN : Y.length < N := by omega
        have HY := Lib.hid (And.intro (hYS.trans hsub) (And.intro hYL hb))
        have HKE := Lib.hid (And.intro ho (And.intro hNx (And.intro hsub (And.intro hPx hb))))
        clear hYL hYS ho hNx hsub hPx hb HS
        generalize hNY : Y.length = NY at *
        have HNY := Lib.hid hNY
        clear hNY
        go_wp2_with fail
        refine HC.out.mono ?_
        rintro e1 w1 ⟨A1, c1, rfl, ho1, hb1⟩
        have HB1 := Lib.hid hb1
        have HQ := Lib.hid (HA.out w1 _ NY c1 A1 Y (Below.step (Below.step HW.out HY.out.2.2) hb1) ho1 HNY.out.symm (by omega))
        have HO1 := Lib.hid ho1
        clear hb1 ho1 HC
        cases hpy : P Y
        · rw [hpy] at HQ
          clear hpy
          go_wp2_with fail
          refine HQ.out.mono ?_
          rintro e2 w2 ⟨rfl, hb2⟩
          have HB2 := Lib.hid hb2
          clear hb2
          go_wp2_with fail
          go_roundg (N - (k + size))
          case measure => omega
          case rel =>
            obtain ⟨h1, h2, h3, h4, h5⟩ := HKE.out
            exact ⟨k + size, N, c, A, rfl, rfl, by go_num, by omega, hN, Lib.hid ⟨base, x, h2, rkept (rkept h1 HB1.out) HB2.out, h3, h4, Below.step (Below.step h5 HB1.out) HB2.out⟩⟩
        · rw [hpy] at HQ
          have HPY := Lib.hid hpy
          clear hpy
          go_wp2_with fail
          refine HQ.out.mono ?_
          rintro e2 w2 ⟨rfl, hb2⟩
          have HB2 := Lib.hid hb2
          clear hb2
          go_wp2_with fail
          go_roundg (NY - k)
          case measure => omega
          case rel =>
            exact ⟨k, NY, c1, A1, rfl, rfl, rfl, by omega, by omega, Lib.hid ⟨_, Y, HNY.out.symm, rkept HO1.out HB2.out, HY.out.1, HPY.out, Below.step (Below.step HY.out.2.2 HB1.out) HB2.out⟩⟩
    · have k1 : ¬ ((k : Int) < (N : Int)) := by omega
      go_wp2_with fail
      go_ret
      obtain ⟨base, x, hNx, ho, hsub, hPx, hb⟩ := HS.out
      subst hNx
      exact ⟨_, rfl, x, ⟨base, A, c, rfl, ho⟩, hsub, hPx, hb⟩
end Go.Proofs.Ytfdjbhlpkfbgnaa

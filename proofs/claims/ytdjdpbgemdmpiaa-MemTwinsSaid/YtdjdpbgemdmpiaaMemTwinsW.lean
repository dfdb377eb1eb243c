/-
  The walk of MemTwins.
-/
import Derived.Test.YtdjdpbgemdmpiaaRows
import Derived.WalkKit
import Derived.ProofKit
import Derived.OpenShut
import Derived.ShutString
import Derived.Below
import Derived.Outline
import Derived.WalkLawsBesides
import Derived.WalkSpells
import Derived.Handy
import Derived.Deep.QuietTactic
import Derived.BigQuiet
import Derived.RegionTactic
import Derived.ChangeAlike
import Derived.Lib.Hide
import Derived.Laws.Rows
import Derived.Laws.Tables
import Derived.Laws.CopyOwn
import Derived.Laws.MakeOwn
import Derived.Laws.Entries
import Derived.Laws.OwnMore
import Derived.Deep.WholeRow
import Derived.Deep.LoopGhost
import Derived.Deep.AppendLies
import Derived.Deep.Draws
import Derived.Maps.AppendAt
import Derived.OwnWalk
import Derived.Deep.RegionHeld3
import Derived.Deep.Cut
import Derived.Deep.CutRange
import Derived.Deep.DeepCutAuto
import Derived.Deep.CutBlock
import Derived.Lib.SliceRun
import Derived.IntWalk
import Derived.Test.YtdjdpbgemdmpiaaKit
import Derived.Test.YtdjdpbgemdmpiaaApp
import Derived.Stop.Asserts
import Derived.RowKitTokens
import Derived.LaidEql
import Derived.Test.YtdjdpbgemdmpiaaMemT
import Derived.Test.YtdjdpbgemdmpiaaQuiet
import Derived.Test.YtdjdpbgemdmpiaaMemU
import Derived.Test.YtdjdpbgemdmpiaaOps
namespace Go.Proofs.Ytdjdpbgemdmpiaa.memTwins
open Go.ChangeShapes Go.WideShapes Go.ChangeAt Go.RowKit
theorem mod20 (a : Int) (h : (Lit.int .u8 a).wf = true) : ∃ n : Nat, n < 20 ∧ a % 20 = (n : Int) ∧ 0 ≤ a ∧ a ≤ 255 := by
  simp [Lit.wf, show IntKind.u8.min = 0 from by decide, show IntKind.u8.max = 255 from by decide] at h
  exact ⟨(a % 20).toNat, by omega, by omega, h⟩
set_option maxRecDepth 100000 in
set_option maxHeartbeats 8000000 in
theorem walk (a0 : Int) (a1 : Option Addr) (len1 cap1 : Nat) (g1 : Nat → OpV) (a2 : Option Addr) (len2 cap2 : Nat) (g2 : Nat → OpV) (w : World) (w0 : (Lit.int .u8 a0).wf = true) (w1 : OpsAt a1 len1 g1 w) (w2 : OpsAt a2 len2 g2 w) :
    Calls Try.prog 3 #[.int .u8 a0, .slice a1 len1 cap1, .slice a2 len2 cap2] w fun e w' => e = .returned (.bool true) ∧ Below w.heap.size w w' := by
  obtain ⟨n, hn20, hmod, h0, h255⟩ := mod20 a0 w0
  have HO1 := Lib.hid w1
  have HO2 := Lib.hid w2
  have hn : n ≤ 8192 := by omega
  have HNEW : Hid (Calls Try.prog 9 #[.int .i64 (a0 % 20)] w fun e w' => ∃ M B : Nat, e = .returned (.tuple #[.pointer (some ⟨M, 0, none⟩), .nilIface]) ∧ MAt M B n n ⟨fun _ => 0, 0, 0, 0, 0, 0, false⟩ w' ∧ w.heap.size ≤ M ∧ w.heap.size ≤ B ∧ Below w.heap.size w w') := by
    rw [hmod]
    exact Lib.hid (new_mat n hn w)
  have HN20 := Lib.hid hn20
  have HN := Lib.hid hn
  have HMOD := Lib.hid hmod
  clear w0 w1 w2 hn20 hn hmod
  go_enter Try.func3, Try.ntmps3
  go_wp2_with fail
  refine HNEW.out.mono ?_
  rintro e w1 ⟨M, B, rfl, hM1, hMw, hBw, hb1⟩
  have HM1 := Lib.hid hM1
  have HMw := Lib.hid hMw
  have HBw := Lib.hid hBw
  have HB1 := Lib.hid hb1
  clear hM1 hMw hBw hb1 HNEW
  by_cases hl1 : (100 : Int) < (len1 : Int)
  · clear HO1 HO2
    go_wp2_with fail
    refine (awake03 _).mono ?_
    rintro e w2 ⟨rfl, hb2⟩
    have HB2 := Lib.hid (Below.step HB1.out hb2)
    clear hb2
    go_wp2
    go_ret
    exact ⟨rfl, HB2.out⟩
  by_cases hl2 : (100 : Int) < (len2 : Int)
  · clear HO1 HO2
    go_wp2_with fail
    refine (awake03 _).mono ?_
    rintro e w2 ⟨rfl, hb2⟩
    have HB2 := Lib.hid (Below.step HB1.out hb2)
    clear hb2
    go_wp2
    go_ret
    exact ⟨rfl, HB2.out⟩
  have HL1 := Lib.hid (show len1 ≤ 100 from by omega)
  have HL2 := Lib.hid (show len2 ≤ 100 from by omega)
  have HD1 := Lib.hid (do_any HM1.out HN.out (show (0 : Int) ≤ 0 ∧ (0 : Int) ≤ 500000 from by decide) a1 len1 cap1 HL1.out g1 HO1.out HB1.out HMw.out HBw.out)
  go_wp2_with fail
  refine HD1.out.mono ?_
  rintro e w2 ⟨rfl, hM2, hO2⟩
  have hst2 := run_st n g1 ⟨fun _ => 0, 0, 0, 0, 0, 0, false⟩ len1
  generalize run n g1 ⟨fun _ => 0, 0, 0, 0, 0, 0, false⟩ len1 = s2 at hM2 hst2
  have HST2 := Lib.hid (show 0 ≤ s2.st ∧ s2.st ≤ 100 from by have h := HL1.out; simp only at hst2; omega)
  have HM2 := Lib.hid hM2
  have HB2 := Lib.hid (hO2.below HMw.out HBw.out HB1.out.size HB1.out)
  have HW2 := Lib.hid (words_is (c := n) hM2 HN.out)
  clear hM2 hO2 hst2 HD1
  go_wp2_with fail
  refine HW2.out.mono ?_
  rintro e w3 ⟨B', c', rfl, hW3, hl3, hb3⟩
  have HM3 := Lib.hid (HM2.out.below hb3)
  have HB3 := Lib.hid (Below.step HB2.out hb3)
  have HW3 := Lib.hid (show WordsAt B' n (some ⟨B', 0, none⟩) s2.ws w3 from hW3)
  have HMl := Lib.hid (show M < w2.heap.size ∧ B < w2.heap.size from ⟨HM2.out.ml, HM2.out.bl⟩)
  have HL3 := Lib.hid hl3
  have HT3 := Lib.hid (twin_is HM3.out HN.out)
  clear hW3 hl3 HW2
  have HZ3 := Lib.hid (show w2.heap.size ≤ w3.heap.size from hb3.size)
  clear hb3
  go_wp2_with fail
  refine HT3.out.mono ?_
  rintro e w4 ⟨M2, B2, c2, rfl, hM4, hlM, hlB, hb4⟩
  have HT4 := Lib.hid hM4
  have HM4 := Lib.hid (HM3.out.below hb4)
  have HW4 := Lib.hid (HW3.out.below hb4)
  have HB4 := Lib.hid (Below.step HB3.out hb4)
  have HNE := Lib.hid (show M ≠ M2 ∧ M ≠ B2 ∧ B ≠ M2 ∧ B ≠ B2 ∧ B' ≠ M2 ∧ B' ≠ B2 ∧ w.heap.size ≤ M2 ∧ w.heap.size ≤ B2 from by
    have e1 := HMl.out; have e2 := HZ3.out; have e3 := HW3.out.bl; have e4 := HB3.out.size
    omega)
  have HD4 := Lib.hid (do_any HT4.out HN.out (show 0 ≤ s2.st ∧ s2.st ≤ 500000 from by have h := HST2.out; omega) a2 len2 cap2 HL2.out g2 HO2.out HB4.out HNE.out.2.2.2.2.2.2.1 HNE.out.2.2.2.2.2.2.2)
  clear hM4 hlM hlB hb4 HT3 HM3 HW3
  go_wp2_with fail
  refine HD4.out.mono ?_
  rintro e w5 ⟨rfl, hM5, hO5⟩
  have hst3 := run_st n g2 s2 len2
  generalize hS3 : run n g2 s2 len2 = s3 at hM5 hst3
  have HS3 := Lib.hid hS3
  have HT5 := Lib.hid hM5
  have HM5 := Lib.hid (HM4.out.oth hO5 HNE.out.1 HNE.out.2.1 HNE.out.2.2.1 HNE.out.2.2.2.1)
  have HW5 := Lib.hid (HW4.out.oth hO5 HNE.out.2.2.2.2.1 HNE.out.2.2.2.2.2.1)
  have HB5 := Lib.hid (hO5.below HNE.out.2.2.2.2.2.2.1 HNE.out.2.2.2.2.2.2.2 HB4.out.size HB4.out)
  have HWD5 := Lib.hid (words_is (c := n) HM5.out HN.out)
  clear hM5 hO5 hst3 hS3 HD4 HM4 HW4 HT4
  go_wp2_with fail
  refine HWD5.out.mono ?_
  rintro e w6 ⟨B3, c3, rfl, hW6, hl6, hb6⟩
  have HT6 := Lib.hid (HT5.out.below hb6)
  have HM6 := Lib.hid (HM5.out.below hb6)
  have HB6 := Lib.hid (Below.step HB5.out hb6)
  have HSM6 := Lib.hid (same_is (c1 := c3) (c2 := c') hW6 (HW5.out.below hb6) HN.out)
  clear hW6 hl6 hb6 HWD5 HM5 HT5 HW5
  go_wp2_with fail
  refine HSM6.out.mono ?_
  rintro e w7 ⟨rfl, hb7⟩
  have HT7 := Lib.hid (HT6.out.below hb7)
  have HM7 := Lib.hid (HM6.out.below hb7)
  have HB7 := Lib.hid (Below.step HB6.out hb7)
  have HD7 := Lib.hid (do_any HM7.out HN.out (show 0 ≤ s2.st ∧ s2.st ≤ 500000 from by have h := HST2.out; omega) a2 len2 cap2 HL2.out g2 HO2.out HB7.out HMw.out HBw.out)
  clear hb7 HSM6 HT6 HM6
  go_wp2_with fail
  refine HD7.out.mono ?_
  rintro e w8 ⟨rfl, hM8, hO8⟩
  rw [HS3.out] at hM8
  have HM8 := Lib.hid hM8
  have HT8 := Lib.hid (HT7.out.oth hO8 (Ne.symm HNE.out.1) (Ne.symm HNE.out.2.2.1) (Ne.symm HNE.out.2.1) (Ne.symm HNE.out.2.2.2.1))
  have HB8 := Lib.hid (hO8.below HMw.out HBw.out HB7.out.size HB7.out)
  clear hM8 hO8 HD7 HT7 HM7
  obtain ⟨ws, st, lk, la, lp, lq, ld⟩ := s3
  go_wp2_with fail
  refine (awake03 _).mono ?_
  rintro e w9 ⟨rfl, hb9⟩
  have HT9 := Lib.hid (HT8.out.below hb9)
  have HM9 := Lib.hid (HM8.out.below hb9)
  have HB9 := Lib.hid (Below.step HB8.out hb9)
  have HWD9 := Lib.hid (words_is (c := n) HM9.out HN.out)
  clear hb9 HT8 HM8
  go_wp2_with fail
  refine HWD9.out.mono ?_
  rintro e w10 ⟨B4, c4, rfl, hW10, hl10, hb10⟩
  have HT10 := Lib.hid (HT9.out.below hb10)
  have HM10 := Lib.hid (HM9.out.below hb10)
  have HB10 := Lib.hid (Below.step HB9.out hb10)
  have HW10 := Lib.hid (show WordsAt B4 n (some ⟨B4, 0, none⟩) ws w10 from hW10)
  have HWD10 := Lib.hid (words_is (c := c2) HT10.out HN.out)
  clear hb10 hl10 hW10 HWD9 HT9 HM9
  go_wp2_with fail
  refine HWD10.out.mono ?_
  rintro e w11 ⟨B5, c5, rfl, hW11, hl11, hb11⟩
  have HT11 := Lib.hid (HT10.out.below hb11)
  have HM11 := Lib.hid (HM10.out.below hb11)
  have HB11 := Lib.hid (Below.step HB10.out hb11)
  have HSM11 := Lib.hid (same_is (c1 := c4) (c2 := c5) (HW10.out.below hb11) (show WordsAt B5 n (some ⟨B5, 0, none⟩) ws w11 from hW11) HN.out)
  clear hb11 hl11 hW11 HWD10 HT10 HM10 HW10
  go_wp2_with fail
  refine HSM11.out.mono ?_
  rintro e w12 ⟨rfl, hb12⟩
  have HT12 := Lib.hid (HT11.out.below hb12)
  have HM12 := Lib.hid (HM11.out.below hb12)
  have HB12 := Lib.hid (Below.step HB11.out hb12)
  clear hb12 HSM11 HT11 HM11
  go_wp2_with fail
  refine (steps_is HM12.out).mono ?_
  rintro e w13 ⟨rfl, rfl⟩
  go_wp2_with fail
  refine (steps_is HT12.out).mono ?_
  rintro e w14 ⟨rfl, rfl⟩
  go_wp2_with fail
  refine (last_is HM12.out).mono ?_
  rintro e w13 ⟨rfl, hb13⟩
  have HT13 := Lib.hid (HT12.out.below hb13)
  have HB13 := Lib.hid (Below.step HB12.out hb13)
  clear hb13 HT12 HM12
  go_wp2_with fail
  refine (last_is HT13.out).mono ?_
  rintro e w14 ⟨rfl, hb14⟩
  have HB14 := Lib.hid (Below.step HB13.out hb14)
  clear hb14 HT13
  go_wp2
  go_ret
  exact ⟨rfl, HB14.out⟩
end Go.Proofs.Ytdjdpbgemdmpiaa.memTwins

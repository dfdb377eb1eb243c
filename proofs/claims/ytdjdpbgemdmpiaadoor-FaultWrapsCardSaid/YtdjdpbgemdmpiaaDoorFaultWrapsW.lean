/-
  FaultWraps: the walk.
-/
import Derived.Test.YtdjdpbgemdmpiaaDoorRows
import Derived.Test.YtdjdpbgemdmpiaaDoorKit
import Derived.Test.YtdjdpbgemdmpiaaDoorAsF
import Derived.Test.YtdjdpbgemdmpiaaDoorAsC
import Derived.Test.YtdjdpbgemdmpiaaDoorAsD
import Derived.Test.YtdjdpbgemdmpiaaDoorAsE
import Derived.Test.YtdjdpbgemdmpiaaDoorApp
import Derived.Test.YtdjdpbgemdmpiaaDoorAsG
import Derived.Test.YtdjdpbgemdmpiaaDoorWraps
import Derived.Test.YtdjdpbgemdmpiaaDoorAwake1
import Derived.Test.YtdjdpbgemdmpiaaDoorIsC
import Derived.Test.YtdjdpbgemdmpiaaDoorRefW
import Derived.Deep.Slices
import Derived.Deep.Fields
import Derived.ChangeSame
import Derived.Deep.RegionLaw
import Derived.Deep.AppendLies
import Derived.WalkKit
import Derived.ProofKit
import Derived.OpenShut
import Derived.ShutString
import Derived.Below
import Derived.Outline
import Derived.WalkLawsBesides
import Derived.WalkSpells
import Derived.Handy
import Derived.Deep.QuietTactic
import Derived.BigQuiet
import Derived.RegionTactic
import Derived.ChangeAlike
import Derived.Lib.Hide
import Derived.Deep.LoopGhost
import Derived.Deep.RegionHeld3
import Derived.Deep.Cut
import Derived.Deep.CutRange
import Derived.Deep.DeepCutAuto
import Derived.Deep.CutBlock
import Derived.Deep.RegionLaw
import Derived.LaidEql
import Derived.Stop.Asserts
import Derived.RowKitTokens
import Derived.Defers
import Derived.Recover
namespace Go.Proofs.YtdjdpbgemdmpiaaDoor.faultWraps
open Go.ChangeShapes Go.WideShapes Go.ChangeAt Go.RowKit
theorem strs_at {w : World} {base : Nat} {L : List ByteArray} {A : Option Addr} {cp : Nat} (h : Strs w base L (.slice A L.length cp)) (k : Nat) (hk : k < L.length) : ∃ g, A = some ⟨g, 0, none⟩ ∧ g < w.heap.size ∧ w.cell? ⟨g, k, none⟩ = some (.string (L[k]'hk)) := by
  obtain ⟨g, cap, hv, hg1, hg2⟩ := World.ownsRow.form h (by omega)
  have hA : A = some ⟨g, 0, none⟩ := by injection hv
  subst hA
  refine ⟨g, rfl, hg2, ?_⟩
  have hc := World.ownsRow.cells h (g := g) rfl k (.string (L[k]'hk)) (by simp [hk])
  have e1 : (⟨g, 0, none⟩ : Addr).add k = ⟨g, k, none⟩ := by
    unfold Addr.add
    by_cases hz : k = 0
    · rw [if_pos hz, hz]
    · simp only [if_neg hz, Nat.zero_add]
  rw [e1] at hc
  exact hc
set_option maxRecDepth 100000 in
set_option maxHeartbeats 8000000 in
theorem walk (a0 : Option Addr) (len0 cap0 : Nat) (g0 : Nat → WrV) (a1 : Int) (a2 : Int) (w : World) (hg : w.cell? ⟨0, 0, none⟩ = some (.iface 127 (.agg #[.pointer (some ⟨1, 25, none⟩)]))) (hgl : 0 < w.heap.size) (w0 : WrsAt a0 len0 g0 w) (w1 : (Lit.int .i64 a1).wf = true) (w2 : (Lit.int .i64 a2).wf = true) :
    Calls Tryd.prog 3 #[.slice a0 len0 cap0, .int .i64 a1, .int .i64 a2] w fun e w' => e = .returned (.bool true) ∧ Below w.heap.size w w' := by
  have HG0 := Lib.hid hg
  have hl0 := hgl
  have HW0 := Lib.hid w0
  clear hg w0 w1 w2
  by_cases hl : (30 : Int) < (len0 : Int)
  · go_enter Tryd.func3, Tryd.ntmps3
    go_wp2_with fail
    refine (awake01 _ HG0.out hl0).mono ?_
    rintro e w2 ⟨rfl, hb2⟩
    go_wp2
    go_ret
    exact ⟨rfl, hb2⟩
  have HLEN := Lib.hid (show len0 ≤ 30 by omega)
  have HB0 := Lib.hid (Below.refl w.heap.size w)
  go_enter Tryd.func3, Tryd.ntmps3
  go_wp2_with fail
  refine (wrapped_ch _ _ _ g0 a1 _ HW0.out (by have := HLEN.out; omega)).mono ?_
  rintro e w1 ⟨ve, rfl, hc1, hb1⟩
  obtain ⟨L, hL⟩ : ∃ L, L = wrsF g0 len0 0 := ⟨_, rfl⟩
  have HL := Lib.hid hL
  rw [← hL] at hc1
  have hl9 : L.length = len0 := by rw [hL]; exact wrsF_len g0 len0
  have HLL := Lib.hid hl9
  clear hL hl9
  obtain ⟨Te, xe, hx⟩ := hc1.iface
  subst hx
  have HE1 := Lib.hid hc1
  have HB1 := Lib.hid (Below.step HB0.out hb1)
  have HG1 := Lib.hid ((hb1.cell (p := ⟨0, 0, none⟩) hl0).trans HG0.out)
  have hl1 := Nat.lt_of_lt_of_le hl0 hb1.size
  have HW1 := Lib.hid (HW0.out.below hb1)
  clear hc1 hb1
  go_wp2_with fail
  refine (place_is L _ _ _ HE1.out HG1.out hl1).mono ?_
  rintro e w2 ⟨rfl, hb2⟩
  have HB2 := Lib.hid (Below.step HB1.out hb2)
  have HG2 := Lib.hid ((hb2.cell (p := ⟨0, 0, none⟩) hl1).trans HG1.out)
  have hl2 := Nat.lt_of_lt_of_le hl1 hb2.size
  have HE2 := Lib.hid (HE1.out.below hb2)
  have HW2 := Lib.hid (HW1.out.below hb2)
  clear hb2
  go_wp2_with fail
  refine (show Calls Tryd.prog 11 #[.slice a0 len0 cap0] w2 fun e w' => e = .returned (.tuple #[.int .i64 (plN L), .bool (plB L)]) ∧ Below w2.heap.size w2 w' from by rw [HL.out]; exact rplace_is _ _ _ g0 _ HW2.out (by have := HLEN.out; omega)).mono ?_
  rintro e w3 ⟨rfl, hb3⟩
  have HB3 := Lib.hid (Below.step HB2.out hb3)
  have HG3 := Lib.hid ((hb3.cell (p := ⟨0, 0, none⟩) hl2).trans HG2.out)
  have hl3 := Nat.lt_of_lt_of_le hl2 hb3.size
  have HE3 := Lib.hid (HE2.out.below hb3)
  have HW3 := Lib.hid (HW2.out.below hb3)
  clear hb3
  generalize plN L = pN
  generalize plB L = pB
  obtain ⟨S, hS⟩ : ∃ S, wos L = S := ⟨_, rfl⟩
  have HS := Lib.hid hS
  have HSL := Lib.hid (show S.length ≤ 30 from by rw [← hS]; have h1 := wos_len L; have h2 := HLL.out; have h3 := HLEN.out; omega)
  clear hS
  go_wp2_with fail
  refine (show Calls Tryd.prog 12 #[.iface Te xe] w3 (WordsIs w3 S) from by rw [← HS.out]; exact words_is L _ _ _ HE3.out HG3.out hl3 (by rw [HS.out]; have := HSL.out; omega)).mono ?_
  rintro e w4 ⟨r4, rfl, hr4, hb4⟩
  obtain ⟨A4, c4, hv⟩ := own_shape hr4
  subst hv
  have HR4 := Lib.hid (show w4.ownsRow w3.heap.size 9 1 (.slice A4 S.length c4) S.length (S.map Value.string) from hr4)
  have HB4 := Lib.hid (Below.step HB3.out hb4)
  have HG4 := Lib.hid ((hb4.cell (p := ⟨0, 0, none⟩) hl3).trans HG3.out)
  have hl4 := Nat.lt_of_lt_of_le hl3 hb4.size
  have HE4 := Lib.hid (HE3.out.below hb4)
  have HW4 := Lib.hid (HW3.out.below hb4)
  clear hb4 hr4
  go_wp2_with fail
  refine (show Calls Tryd.prog 13 #[.slice a0 len0 cap0] w4 (WordsIs w4 S) from by rw [← HS.out, HL.out]; exact rwords_is _ _ _ g0 _ HW4.out (by have := HLEN.out; omega)).mono ?_
  rintro e w5 ⟨r5, rfl, hr5, hb5⟩
  obtain ⟨A5, c5, hv⟩ := own_shape hr5
  subst hv
  have HR5 := Lib.hid (show w5.ownsRow w4.heap.size 9 1 (.slice A5 S.length c5) S.length (S.map Value.string) from hr5)
  have HQ4 := Lib.hid (row_kept HR4.out hb5)
  have HB5 := Lib.hid (Below.step HB4.out hb5)
  have HG5 := Lib.hid ((hb5.cell (p := ⟨0, 0, none⟩) hl4).trans HG4.out)
  have hl5 := Nat.lt_of_lt_of_le hl4 hb5.size
  have HE5 := Lib.hid (HE4.out.below hb5)
  have HW5 := Lib.hid (HW4.out.below hb5)
  clear hb5 hr5
  go_wp2_with fail
  go_loopg [54] S.length (fun gk i wr => ∃ k : Nat, gk = S.length - k ∧ k ≤ S.length ∧ i = .int .i64 k ∧ Below w5.heap.size w5 wr)
  case atStart => exact ⟨0, rfl, Nat.zero_le _, rfl, Below.refl _ _⟩
  case round =>
    obtain ⟨k, rfl, hk, rfl, hB⟩ := hrel
    by_cases hkl : k < S.length
    · obtain ⟨p4, rfl, hp4, hc4⟩ := strs_at HQ4.out k hkl
      obtain ⟨p5, rfl, hp5, hc5⟩ := strs_at HR5.out k hkl
      have d4 := (hB.cell (p := ⟨p4, k, none⟩) hp4).trans hc4
      have d5 := (hB.cell (p := ⟨p5, k, none⟩) hp5).trans hc5
      clear hc4 hc5
      have HK := Lib.hid hkl
      have HKM := Lib.hid (show S.length - (k + 1) < S.length - k by omega)
      generalize (S[k]'hkl) = s at d4 d5
      have k0 : (0 : Int) ≤ (k : Int) := by omega
      have k1 : (k : Int) < (S.length : Int) := by omega
      have k2 : (k : Int) ≤ 30 := by have := HSL.out; omega
      go_wp2_with fail
      go_quiet (fail)
      go_wp2_with fail
      go_roundg (S.length - (k + 1))
      case measure => exact HKM.out
      case rel => exact ⟨k + 1, rfl, HK.out, by go_num, ⟨hB.os, hB.tape, hB.output, hB.size, hB.block⟩⟩
    · obtain rfl : k = S.length := by omega
      have hb8 := hB
      have HB8 := Lib.hid (Below.step HB5.out hB)
      have HG8 := Lib.hid ((hB.cell (p := ⟨0, 0, none⟩) hl5).trans HG5.out)
      have hl8 := Nat.lt_of_lt_of_le hl5 hB.size
      have HE8 := Lib.hid (HE5.out.below hB)
      have HW8 := Lib.hid (HW5.out.below hB)
      clear hB hb8
      go_wp2_with fail
      refine (awake01 _ HG8.out hl8).mono ?_
      rintro e w8 ⟨rfl, hbA⟩
      have HB8 := Lib.hid (Below.step HB8.out hbA)
      have HE8 := Lib.hid (HE8.out.below hbA)
      have HW8 := Lib.hid (HW8.out.below hbA)
      have HG8 := Lib.hid ((hbA.cell (p := ⟨0, 0, none⟩) hl8).trans HG8.out)
      have hl8 := Nat.lt_of_lt_of_le hl8 hbA.size
      clear hbA
      go_wp2_with fail
      by_cases h12 : a1 = a2
      · have hcd : (a1 == a2) = true := by rw [h12]; simp
        have HCD := Lib.hid hcd
        clear h12 hcd
        refine (code_is L a1 _ _ HE8.out HG8.out hl8).mono ?_
        rintro e w9 ⟨rfl, hb9⟩
        have HB9 := Lib.hid (Below.step HB8.out hb9)
        have HG9 := Lib.hid ((hb9.cell (p := ⟨0, 0, none⟩) hl8).trans HG8.out)
        have hl9 := Nat.lt_of_lt_of_le hl8 hb9.size
        have HE9 := Lib.hid (HE8.out.below hb9)
        have HW9 := Lib.hid (HW8.out.below hb9)
        clear hb9
        go_wp2_with fail
        refine (has_ch L a1 a1 true (by simp) _ _ HE9.out).mono ?_
        rintro e w10 ⟨rfl, hb10⟩
        have HB10 := Lib.hid (Below.step HB9.out hb10)
        have HG10 := Lib.hid ((hb10.cell (p := ⟨0, 0, none⟩) hl9).trans HG9.out)
        have hl10 := Nat.lt_of_lt_of_le hl9 hb10.size
        have HE10 := Lib.hid (HE9.out.below hb10)
        have HW10 := Lib.hid (HW9.out.below hb10)
        clear hb10
        go_wp2_with fail
        refine (has_ch L a1 a2 true HCD.out _ _ HE10.out).mono ?_
        rintro e w11 ⟨rfl, hb11⟩
        have HB11 := Lib.hid (Below.step HB10.out hb11)
        have HG11 := Lib.hid ((hb11.cell (p := ⟨0, 0, none⟩) hl10).trans HG10.out)
        have hl11 := Nat.lt_of_lt_of_le hl10 hb11.size
        have HE11 := Lib.hid (HE10.out.below hb11)
        have HW11 := Lib.hid (HW10.out.below hb11)
        clear hb11
        have hcd := HCD.out
        go_wp2_with fail
        refine (Is_ch L a1 a1 true (by simp) _ _ _ (Below.refl _ _) HE11.out).mono ?_
        rintro e w12 ⟨rfl, hb12⟩
        have HB12 := Lib.hid (Below.step HB11.out hb12)
        have HG12 := Lib.hid ((hb12.cell (p := ⟨0, 0, none⟩) hl11).trans HG11.out)
        have hl12 := Nat.lt_of_lt_of_le hl11 hb12.size
        have HW12 := Lib.hid (HW11.out.below hb12)
        clear hb12
        go_wp2_with fail
        refine (wrapped_nil _ _ _ g0 _ HW12.out (by have := HLEN.out; omega)).mono ?_
        rintro e w13 ⟨rfl, hb13⟩
        have HB13 := Lib.hid (Below.step HB12.out hb13)
        clear hb13
        go_wp2_with fail
        go_ret
        exact ⟨rfl, HB13.out⟩
      · have hcd : (a1 == a2) = false := by rw [beq_eq_false_iff_ne]; exact h12
        have HCD := Lib.hid hcd
        clear h12 hcd
        refine (code_is L a1 _ _ HE8.out HG8.out hl8).mono ?_
        rintro e w9 ⟨rfl, hb9⟩
        have HB9 := Lib.hid (Below.step HB8.out hb9)
        have HG9 := Lib.hid ((hb9.cell (p := ⟨0, 0, none⟩) hl8).trans HG8.out)
        have hl9 := Nat.lt_of_lt_of_le hl8 hb9.size
        have HE9 := Lib.hid (HE8.out.below hb9)
        have HW9 := Lib.hid (HW8.out.below hb9)
        clear hb9
        go_wp2_with fail
        refine (has_ch L a1 a1 true (by simp) _ _ HE9.out).mono ?_
        rintro e w10 ⟨rfl, hb10⟩
        have HB10 := Lib.hid (Below.step HB9.out hb10)
        have HG10 := Lib.hid ((hb10.cell (p := ⟨0, 0, none⟩) hl9).trans HG9.out)
        have hl10 := Nat.lt_of_lt_of_le hl9 hb10.size
        have HE10 := Lib.hid (HE9.out.below hb10)
        have HW10 := Lib.hid (HW9.out.below hb10)
        clear hb10
        go_wp2_with fail
        refine (has_ch L a1 a2 false HCD.out _ _ HE10.out).mono ?_
        rintro e w11 ⟨rfl, hb11⟩
        have HB11 := Lib.hid (Below.step HB10.out hb11)
        have HG11 := Lib.hid ((hb11.cell (p := ⟨0, 0, none⟩) hl10).trans HG10.out)
        have hl11 := Nat.lt_of_lt_of_le hl10 hb11.size
        have HE11 := Lib.hid (HE10.out.below hb11)
        have HW11 := Lib.hid (HW10.out.below hb11)
        clear hb11
        have hcd := HCD.out
        go_wp2_with fail
        refine (Is_ch L a1 a1 true (by simp) _ _ _ (Below.refl _ _) HE11.out).mono ?_
        rintro e w12 ⟨rfl, hb12⟩
        have HB12 := Lib.hid (Below.step HB11.out hb12)
        have HG12 := Lib.hid ((hb12.cell (p := ⟨0, 0, none⟩) hl11).trans HG11.out)
        have hl12 := Nat.lt_of_lt_of_le hl11 hb12.size
        have HW12 := Lib.hid (HW11.out.below hb12)
        clear hb12
        go_wp2_with fail
        refine (wrapped_nil _ _ _ g0 _ HW12.out (by have := HLEN.out; omega)).mono ?_
        rintro e w13 ⟨rfl, hb13⟩
        have HB13 := Lib.hid (Below.step HB12.out hb13)
        clear hb13
        go_wp2_with fail
        go_ret
        exact ⟨rfl, HB13.out⟩

end Go.Proofs.YtdjdpbgemdmpiaaDoor.faultWraps

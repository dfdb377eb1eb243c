/-
  FaultDeep: the walk.
-/
import Derived.Test.YtdjdpbgemdmpiaaDoorRows
import Derived.Test.YtdjdpbgemdmpiaaDoorKit
import Derived.Test.YtdjdpbgemdmpiaaDoorAsF
import Derived.Test.YtdjdpbgemdmpiaaDoorAsC
import Derived.Test.YtdjdpbgemdmpiaaDoorAsD
import Derived.Test.YtdjdpbgemdmpiaaDoorAsE
import Derived.Test.YtdjdpbgemdmpiaaDoorApp
import Derived.Test.YtdjdpbgemdmpiaaDoorAsG
import Derived.Test.YtdjdpbgemdmpiaaDoorWraps
import Derived.Test.YtdjdpbgemdmpiaaDoorAwake1
import Derived.Deep.Slices
import Derived.Deep.Fields
import Derived.ChangeSame
import Derived.Deep.RegionLaw
import Derived.Deep.AppendLies
import Derived.WalkKit
import Derived.ProofKit
import Derived.OpenShut
import Derived.ShutString
import Derived.Below
import Derived.Outline
import Derived.WalkLawsBesides
import Derived.WalkSpells
import Derived.Handy
import Derived.Deep.QuietTactic
import Derived.BigQuiet
import Derived.RegionTactic
import Derived.ChangeAlike
import Derived.Lib.Hide
import Derived.Deep.LoopGhost
import Derived.Deep.RegionHeld3
import Derived.Deep.Cut
import Derived.Deep.CutRange
import Derived.Deep.DeepCutAuto
import Derived.Deep.CutBlock
import Derived.Deep.RegionLaw
import Derived.LaidEql
import Derived.Stop.Asserts
import Derived.RowKitTokens
import Derived.Defers
import Derived.Recover
namespace Go.Proofs.YtdjdpbgemdmpiaaDoor.faultDeep
open Go.ChangeShapes Go.WideShapes Go.ChangeAt Go.RowKit
set_option maxRecDepth 100000 in
set_option maxHeartbeats 8000000 in
theorem walk (a0 : Option Addr) (len0 cap0 : Nat) (g0 : Nat → WrV) (a1 : Int) (a2 : ByteArray) (a3 : Int) (w : World) (hg : w.cell? ⟨0, 0, none⟩ = some (.iface 127 (.agg #[.pointer (some ⟨1, 25, none⟩)]))) (hgl : 0 < w.heap.size) (w0 : WrsAt a0 len0 g0 w) (w1 : (Lit.int .i64 a1).wf = true) (w2 : a2.size ≤ maxLen) (w3 : (Lit.int .i64 a3).wf = true) :
    Calls Tryd.prog 5 #[.slice a0 len0 cap0, .int .i64 a1, .string a2, .int .i64 a3] w fun e w' => e = .returned (.bool true) ∧ Below w.heap.size w w' := by
  have HG0 := Lib.hid hg
  have hl0 := hgl
  have HW := Lib.hid w0
  clear hg w0 w1 w2 w3
  by_cases hl : (30 : Int) < (len0 : Int)
  · go_enter Tryd.func5, Tryd.ntmps5
    go_wp2_with fail
    refine (awake01 _ HG0.out hl0).mono ?_
    rintro e w2 ⟨rfl, hb2⟩
    go_wp2
    go_ret
    exact ⟨rfl, hb2⟩
  by_cases hl2 : (200 : Int) < (a2.size : Int)
  · go_enter Tryd.func5, Tryd.ntmps5
    go_wp2_with fail
    refine (awake01 _ HG0.out hl0).mono ?_
    rintro e w2 ⟨rfl, hb2⟩
    go_wp2
    go_ret
    exact ⟨rfl, hb2⟩
  have HLEN := Lib.hid (show len0 ≤ 30 by omega)
  have HB0 := Lib.hid (Below.refl w.heap.size w)
  go_enter Tryd.func5, Tryd.ntmps5
  go_wp2_with fail
  refine (wrapped_ch _ _ _ g0 a3 _ HW.out (by have := HLEN.out; omega)).mono ?_
  rintro e w1 ⟨ve, rfl, hc1, hb1⟩
  have HL := Lib.hid (wrsF_len g0 len0)
  generalize wrsF g0 len0 0 = L at hc1 HL
  obtain ⟨Te, xe, hx⟩ := hc1.iface
  subst hx
  have HE1 := Lib.hid hc1
  have HB1 := Lib.hid (Below.step HB0.out hb1)
  have HG1 := Lib.hid ((hb1.cell (p := ⟨0, 0, none⟩) hl0).trans HG0.out)
  have hl1 := Nat.lt_of_lt_of_le hl0 hb1.size
  clear hc1 hb1
  go_wp2_with fail
  refine (at_ch a1 L a3 _ _ HE1.out).mono ?_
  rintro e w2 ⟨vf, rfl, hc2, hb2⟩
  obtain ⟨Tf, xf, hx⟩ := hc2.iface
  subst hx
  have HF2 := Lib.hid hc2
  have HB2 := Lib.hid (Below.step HB1.out hb2)
  have HG2 := Lib.hid ((hb2.cell (p := ⟨0, 0, none⟩) hl1).trans HG1.out)
  have hl2 := Nat.lt_of_lt_of_le hl1 hb2.size
  have HE2 := Lib.hid (HE1.out.below hb2)
  clear hc2 hb2
  go_wp2_with fail
  refine (with_ch a2 L a3 _ _ HE2.out).mono ?_
  rintro e w3 ⟨vn, rfl, hc3, hb3⟩
  obtain ⟨Tn, xn, hx⟩ := hc3.iface
  subst hx
  have HN3 := Lib.hid hc3
  have HB3 := Lib.hid (Below.step HB2.out hb3)
  have HG3 := Lib.hid ((hb3.cell (p := ⟨0, 0, none⟩) hl2).trans HG2.out)
  have hl3 := Nat.lt_of_lt_of_le hl2 hb3.size
  have HE3 := Lib.hid (HE2.out.below hb3)
  have HF3 := Lib.hid (HF2.out.below hb3)
  clear hc3 hb3
  go_wp2_with fail
  refine (place_some a1 _ _ _ _ HF3.out HG3.out hl3 rfl).mono ?_
  rintro e w4 ⟨rfl, hb4⟩
  have HB4 := Lib.hid (Below.step HB3.out hb4)
  have HG4 := Lib.hid ((hb4.cell (p := ⟨0, 0, none⟩) hl3).trans HG3.out)
  have hl4 := Nat.lt_of_lt_of_le hl3 hb4.size
  have HE4 := Lib.hid (HE3.out.below hb4)
  have HF4 := Lib.hid (HF3.out.below hb4)
  have HN4 := Lib.hid (HN3.out.below hb4)
  clear hb4
  go_wp2_with fail
  refine (place_is L _ _ _ HE4.out HG4.out hl4).mono ?_
  rintro e w5 ⟨rfl, hb5⟩
  have HB5 := Lib.hid (Below.step HB4.out hb5)
  have HG5 := Lib.hid ((hb5.cell (p := ⟨0, 0, none⟩) hl4).trans HG4.out)
  have hl5 := Nat.lt_of_lt_of_le hl4 hb5.size
  have HE5 := Lib.hid (HE4.out.below hb5)
  have HF5 := Lib.hid (HF4.out.below hb5)
  have HN5 := Lib.hid (HN4.out.below hb5)
  clear hb5
  go_wp2_with fail
  refine (show Calls Tryd.prog 10 #[.iface Tn xn] w5 fun e w' => e = .returned (.tuple #[.int .i64 (plN L), .bool (plB L)]) ∧ Below w5.heap.size w5 w' from place_is (.wo a2 :: L) _ _ _ HN5.out HG5.out hl5).mono ?_
  rintro e w6 ⟨rfl, hb6⟩
  have HB6 := Lib.hid (Below.step HB5.out hb6)
  have HG6 := Lib.hid ((hb6.cell (p := ⟨0, 0, none⟩) hl5).trans HG5.out)
  have hl6 := Nat.lt_of_lt_of_le hl5 hb6.size
  have HE6 := Lib.hid (HE5.out.below hb6)
  have HF6 := Lib.hid (HF5.out.below hb6)
  have HN6 := Lib.hid (HN5.out.below hb6)
  clear hb6
  generalize plN L = pN
  generalize plB L = pB
  obtain ⟨S, hS⟩ : ∃ S, wos L = S := ⟨_, rfl⟩
  have HS := Lib.hid hS
  have HSL := Lib.hid (show S.length ≤ 30 from by rw [← hS]; have h1 := wos_len L; have h2 := HL.out; have h3 := HLEN.out; omega)
  clear hS
  go_wp2_with fail
  refine (words_at L S HS.out _ _ _ HE6.out HG6.out hl6 (by have := HSL.out; omega)).mono ?_
  rintro e w7 ⟨A7, c7, rfl, _, hb7⟩
  have HB7 := Lib.hid (Below.step HB6.out hb7)
  have HG7 := Lib.hid ((hb7.cell (p := ⟨0, 0, none⟩) hl6).trans HG6.out)
  have hl7 := Nat.lt_of_lt_of_le hl6 hb7.size
  have HE7 := Lib.hid (HE6.out.below hb7)
  have HF7 := Lib.hid (HF6.out.below hb7)
  have HN7 := Lib.hid (HN6.out.below hb7)
  clear hb7
  go_wp2_with fail
  refine (words_at (.pl a1 :: L) S HS.out _ _ _ HF7.out HG7.out hl7 (by have := HSL.out; omega)).mono ?_
  rintro e w8 ⟨A8, c8, rfl, _, hb8⟩
  have HB8 := Lib.hid (Below.step HB7.out hb8)
  have HG8 := Lib.hid ((hb8.cell (p := ⟨0, 0, none⟩) hl7).trans HG7.out)
  have hl8 := Nat.lt_of_lt_of_le hl7 hb8.size
  have HF8 := Lib.hid (HF7.out.below hb8)
  have HN8 := Lib.hid (HN7.out.below hb8)
  clear hb8
  go_wp2_with fail
  refine (words_at (.wo a2 :: L) (a2 :: S) (by show a2 :: wos L = _; rw [HS.out]) _ _ _ HN8.out HG8.out hl8 (by have := HSL.out; simp only [List.length_cons]; omega)).mono ?_
  rintro e w9 ⟨A9, c9, rfl, hA9, hb9⟩
  obtain ⟨g9, rfl, hgb, hgc⟩ := hA9 a2 S rfl
  have HGC := Lib.hid hgc
  have HGB := Lib.hid hgb
  have HB9 := Lib.hid (Below.step HB8.out hb9)
  have HG9 := Lib.hid ((hb9.cell (p := ⟨0, 0, none⟩) hl8).trans HG8.out)
  have hl9 := Nat.lt_of_lt_of_le hl8 hb9.size
  have HF9 := Lib.hid (HF8.out.below hb9)
  have HN9 := Lib.hid (HN8.out.below hb9)
  clear hb9 hA9 hgc hgb
  rw [List.length_cons]
  generalize S.length = m at HSL
  go_wp2_with fail
  refine (awake01 _ HG9.out hl9).mono ?_
  rintro e w10 ⟨rfl, hb10⟩
  have HB10 := Lib.hid (Below.step HB9.out hb10)
  have HG10 := Lib.hid ((hb10.cell (p := ⟨0, 0, none⟩) hl9).trans HG9.out)
  have hl10 := Nat.lt_of_lt_of_le hl9 hb10.size
  have HF10 := Lib.hid (HF9.out.below hb10)
  have HN10 := Lib.hid (HN9.out.below hb10)
  have hcg := (hb10.cell (p := ⟨g9, 0, none⟩) HGB.out).trans HGC.out
  have hgb10 := Nat.lt_of_lt_of_le HGB.out hb10.size
  have hm1 : (0 : Int) < ((m + 1 : Nat) : Int) := by omega
  have hm2 : (0 : Int) ≤ (m : Int) := by omega
  have hm3 : (m : Int) ≤ 30 := by have := HSL.out; omega
  clear hb10
  go_wp2_with fail
  refine (code_is _ a3 _ _ HF10.out HG10.out hl10).mono ?_
  rintro e w11 ⟨rfl, hb11⟩
  have HB11 := Lib.hid (Below.step HB10.out hb11)
  have HG11 := Lib.hid ((hb11.cell (p := ⟨0, 0, none⟩) hl10).trans HG10.out)
  have hl11 := Nat.lt_of_lt_of_le hl10 hb11.size
  have HN11 := Lib.hid (HN10.out.below hb11)
  clear hb11
  go_wp2_with fail
  refine (code_is _ a3 _ _ HN11.out HG11.out hl11).mono ?_
  rintro e w12 ⟨rfl, hb12⟩
  have HB12 := Lib.hid (Below.step HB11.out hb12)
  clear hb12
  go_wp2_with fail
  go_ret
  exact ⟨rfl, HB12.out⟩
end Go.Proofs.YtdjdpbgemdmpiaaDoor.faultDeep

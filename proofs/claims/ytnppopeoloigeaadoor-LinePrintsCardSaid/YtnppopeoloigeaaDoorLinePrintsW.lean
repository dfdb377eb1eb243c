/-
  The law LinePrints, walked.
-/
import Derived.Test.YtnppopeoloigeaaDoorRows
import Derived.Test.YtnppopeoloigeaaDoorKit
import Derived.Test.YtnppopeoloigeaaDoorApp
import Derived.Test.YtnppopeoloigeaaDoorQuiet
import Derived.WalkKit
import Derived.ProofKit
import Derived.OpenShut
import Derived.ShutString
import Derived.Below
import Derived.Outline
import Derived.WalkLawsBesides
import Derived.WalkSpells
import Derived.Handy
import Derived.Deep.QuietTactic
import Derived.BigQuiet
import Derived.RegionTactic
import Derived.ChangeAlike
import Derived.Lib.Hide
import Derived.Laws.Rows
import Derived.Laws.Tables
import Derived.Laws.CopyOwn
import Derived.Laws.MakeOwn
import Derived.Laws.Entries
import Derived.Laws.OwnMore
import Derived.Deep.WholeRow
import Derived.Deep.LoopGhost
import Derived.Deep.AppendLies
import Derived.Deep.Draws
import Derived.Maps.AppendAt
import Derived.OwnWalk
import Derived.Deep.RegionHeld3
import Derived.Deep.Cut
import Derived.Deep.CutRange
import Derived.Deep.DeepCutAuto
import Derived.Deep.CutBlock
import Derived.Lib.SliceRun
import Derived.IntWalk
import Derived.Laws.Strings
import Derived.Lib.Bytealg
import Derived.Lib.Strings
import Derived.Laws.Externs
import Derived.Test.YtnppopeoloigeaaDoorLnV
import Derived.Test.YtnppopeoloigeaaDoorLnDp
import Derived.Test.YtnppopeoloigeaaDoorLnY
import Derived.Test.YtnppopeoloigeaaDoorLnBp
import Derived.Test.YtnppopeoloigeaaDoorLnN
import Derived.Test.YtnppopeoloigeaaDoorLnX
namespace Go.Proofs.YtnppopeoloigeaaDoor
open Go.ChangeShapes Go.WideShapes Go.ChangeAt Go.RowKit
set_option maxRecDepth 100000 in
set_option maxHeartbeats 8000000 in
theorem way_lo (c0 c1 c2 c3 c4 c5 c6 c7 c8 : Int) (w : World) (hw : Wd w) (ht0 : Tb w) (hk : c0 < 1) (h : pt [c0, c1, c2, c3, c4, c5, c6, c7, c8] = .er 6 (-1)) : Calls Tryd.prog 4 #[.agg (List.toArray [.int .i64 c0, .int .i64 c1, .int .i64 c2, .int .i64 c3, .int .i64 c4, .int .i64 c5, .int .i64 c6, .int .i64 c7, .int .i64 c8])] w fun e w' => e = .returned (.bool true) ∧ Below w.heap.size w w' := by
  have HA := Lib.hid (fun W hW => awake_is W hW)
  have HW := Lib.hid hw
  have HT := Lib.hid ht0
  have HTO := Lib.hid (fun W => to_is c0 c1 c2 c3 c4 c5 c6 c7 c8 W)
  have HPP := Lib.hid (fun W hv ht => pp_no c0 c1 c2 c3 c4 c5 c6 c7 c8 h W hv ht)
  have HRP := Lib.hid (fun W => rp_no c0 c1 c2 c3 c4 c5 c6 c7 c8 h W)
  have gA : Below w.heap.size w (w.alloc (.cells (List.toArray [.int .i64 c0, .int .i64 c1, .int .i64 c2, .int .i64 c3, .int .i64 c4, .int .i64 c5, .int .i64 c6, .int .i64 c7, .int .i64 c8]) 31)) := by go_grown
  have bA := Bl.new w [.int .i64 c0, .int .i64 c1, .int .i64 c2, .int .i64 c3, .int .i64 c4, .int .i64 c5, .int .i64 c6, .int .i64 c7, .int .i64 c8] 31
  have HG := Lib.hid (And.intro gA bA)
  have hk1 : decide ((1 : Int) ≤ c0) = false := decide_eq_false (by omega)
  have HK := Lib.hid hk
  clear hk
  clear h gA bA hw ht0
  go_enter Tryd.func4, Tryd.ntmps4
  go_wp2_with fail
  refine (HTO.out _).mono ?_
  rintro e1 w1 ⟨rfl, hb1⟩
  have HG1 := Lib.hid (And.intro (Below.step HG.out.1 hb1) (HG.out.2.below hb1))
  clear hb1 HTO
  go_wp2_with fail
  refine (HPP.out _ (HW.out.below HG1.out.1).vb (HT.out.below HG1.out.1)).mono ?_
  rintro e2 w2 ⟨v2, ll, rfl, hch, hb2⟩
  have HG2 := Lib.hid (And.intro (Below.step HG1.out.1 hb2) (HG1.out.2.below hb2))
  have HCH := Lib.hid hch
  clear hch
  have bb := HG2.out.2
  have x0 := bb.cell 0 _ rfl
  have x1 := bb.cell 1 _ rfl
  have x2 := bb.cell 2 _ rfl
  have x3 := bb.cell 3 _ rfl
  have x4 := bb.cell 4 _ rfl
  have x5 := bb.cell 5 _ rfl
  have x6 := bb.cell 6 _ rfl
  have x7 := bb.cell 7 _ rfl
  have x8 := bb.cell 8 _ rfl
  clear hb2 HPP bb
  go_wp2_with fail
  refine (HRP.out _).mono ?_
  rintro e3 w3 ⟨rfl, hb3⟩
  have HG3 := Lib.hid (And.intro (Below.step HG2.out.1 hb3) (HG2.out.2.below hb3))
  have HCH3 := Lib.hid (HCH.out.below hb3)
  clear hb3 HRP x0 x1 x2 x3 x4 x5 x6 x7 x8
  go_wp2_with fail
  refine (num_ch ll 6 (by decide) (by decide) v2 w3 HCH3.out).mono ?_
  rintro e4 w4 ⟨rfl, hb4⟩
  have HG4 := Lib.hid (And.intro (Below.step HG3.out.1 hb4) (HG3.out.2.below hb4))
  have HCH4 := Lib.hid (HCH3.out.below hb4)
  have hwq := HG4.out.1
  have y0 := HG4.out.2.cell 0 _ rfl
  clear hb4
  have lA := HG4.out.2.lt
  go_wp2_with fail
  have HG6 := HG4
  refine (HA.out _ (HW.out.below HG6.out.1)).mono ?_
  rintro e7 w7 ⟨rfl, hb7⟩
  have HG7 := Lib.hid (And.intro (Below.step HG6.out.1 hb7) (HG6.out.2.below hb7))
  have z0 := HG7.out.2.cell 0 _ rfl
  clear hb7 y0 lA
  go_wp2_with fail
  refine (verb_no c0 (Or.inl HK.out) w7).mono ?_
  rintro e8 w8 ⟨rfl, hw8⟩
  subst hw8
  have hvs : ((⟨#[63]⟩ : ByteArray)).toList = [63] := by kernel_rfl
  have hvt : (vb ((1 : Int).toNat)).toList = (vb 1).toList := rfl
  skip
  clear hvs hvt
  go_wp2_with fail
  go_ret
  exact ⟨by first | rfl | (simp; done), HG7.out.1⟩
set_option maxRecDepth 100000 in
set_option maxHeartbeats 8000000 in
theorem way_hi (c0 c1 c2 c3 c4 c5 c6 c7 c8 : Int) (w : World) (hw : Wd w) (ht0 : Tb w) (hk : 4 < c0) (h : pt [c0, c1, c2, c3, c4, c5, c6, c7, c8] = .er 6 (-1)) : Calls Tryd.prog 4 #[.agg (List.toArray [.int .i64 c0, .int .i64 c1, .int .i64 c2, .int .i64 c3, .int .i64 c4, .int .i64 c5, .int .i64 c6, .int .i64 c7, .int .i64 c8])] w fun e w' => e = .returned (.bool true) ∧ Below w.heap.size w w' := by
  have HA := Lib.hid (fun W hW => awake_is W hW)
  have HW := Lib.hid hw
  have HT := Lib.hid ht0
  have HTO := Lib.hid (fun W => to_is c0 c1 c2 c3 c4 c5 c6 c7 c8 W)
  have HPP := Lib.hid (fun W hv ht => pp_no c0 c1 c2 c3 c4 c5 c6 c7 c8 h W hv ht)
  have HRP := Lib.hid (fun W => rp_no c0 c1 c2 c3 c4 c5 c6 c7 c8 h W)
  have gA : Below w.heap.size w (w.alloc (.cells (List.toArray [.int .i64 c0, .int .i64 c1, .int .i64 c2, .int .i64 c3, .int .i64 c4, .int .i64 c5, .int .i64 c6, .int .i64 c7, .int .i64 c8]) 31)) := by go_grown
  have bA := Bl.new w [.int .i64 c0, .int .i64 c1, .int .i64 c2, .int .i64 c3, .int .i64 c4, .int .i64 c5, .int .i64 c6, .int .i64 c7, .int .i64 c8] 31
  have HG := Lib.hid (And.intro gA bA)
  have hk1 : (1 : Int) ≤ c0 := by omega
  have hk2 : decide (c0 ≤ 4) = false := decide_eq_false (by omega)
  have HK := Lib.hid hk
  clear hk
  clear h gA bA hw ht0
  go_enter Tryd.func4, Tryd.ntmps4
  go_wp2_with fail
  refine (HTO.out _).mono ?_
  rintro e1 w1 ⟨rfl, hb1⟩
  have HG1 := Lib.hid (And.intro (Below.step HG.out.1 hb1) (HG.out.2.below hb1))
  clear hb1 HTO
  go_wp2_with fail
  refine (HPP.out _ (HW.out.below HG1.out.1).vb (HT.out.below HG1.out.1)).mono ?_
  rintro e2 w2 ⟨v2, ll, rfl, hch, hb2⟩
  have HG2 := Lib.hid (And.intro (Below.step HG1.out.1 hb2) (HG1.out.2.below hb2))
  have HCH := Lib.hid hch
  clear hch
  have bb := HG2.out.2
  have x0 := bb.cell 0 _ rfl
  have x1 := bb.cell 1 _ rfl
  have x2 := bb.cell 2 _ rfl
  have x3 := bb.cell 3 _ rfl
  have x4 := bb.cell 4 _ rfl
  have x5 := bb.cell 5 _ rfl
  have x6 := bb.cell 6 _ rfl
  have x7 := bb.cell 7 _ rfl
  have x8 := bb.cell 8 _ rfl
  clear hb2 HPP bb
  go_wp2_with fail
  refine (HRP.out _).mono ?_
  rintro e3 w3 ⟨rfl, hb3⟩
  have HG3 := Lib.hid (And.intro (Below.step HG2.out.1 hb3) (HG2.out.2.below hb3))
  have HCH3 := Lib.hid (HCH.out.below hb3)
  clear hb3 HRP x0 x1 x2 x3 x4 x5 x6 x7 x8
  go_wp2_with fail
  refine (num_ch ll 6 (by decide) (by decide) v2 w3 HCH3.out).mono ?_
  rintro e4 w4 ⟨rfl, hb4⟩
  have HG4 := Lib.hid (And.intro (Below.step HG3.out.1 hb4) (HG3.out.2.below hb4))
  have HCH4 := Lib.hid (HCH3.out.below hb4)
  have hwq := HG4.out.1
  have y0 := HG4.out.2.cell 0 _ rfl
  clear hb4
  have lA := HG4.out.2.lt
  go_wp2_with fail
  have HG6 := HG4
  refine (HA.out _ (HW.out.below HG6.out.1)).mono ?_
  rintro e7 w7 ⟨rfl, hb7⟩
  have HG7 := Lib.hid (And.intro (Below.step HG6.out.1 hb7) (HG6.out.2.below hb7))
  have z0 := HG7.out.2.cell 0 _ rfl
  clear hb7 y0 lA
  go_wp2_with fail
  refine (verb_no c0 (Or.inr HK.out) w7).mono ?_
  rintro e8 w8 ⟨rfl, hw8⟩
  subst hw8
  have hvs : ((⟨#[63]⟩ : ByteArray)).toList = [63] := by kernel_rfl
  have hvt : (vb ((1 : Int).toNat)).toList = (vb 1).toList := rfl
  skip
  clear hvs hvt
  go_wp2_with fail
  go_ret
  exact ⟨by first | rfl | (simp; done), HG7.out.1⟩
set_option maxRecDepth 100000 in
set_option maxHeartbeats 8000000 in
theorem way_1_5 (c1 c2 c3 c4 c5 c6 c7 c8 : Int) (w : World) (hw : Wd w) (ht0 : Tb w) (p : Int) (h : pt [(1 : Int), c1, c2, c3, c4, c5, c6, c7, c8] = .er 5 p) : Calls Tryd.prog 4 #[.agg (List.toArray [.int .i64 1, .int .i64 c1, .int .i64 c2, .int .i64 c3, .int .i64 c4, .int .i64 c5, .int .i64 c6, .int .i64 c7, .int .i64 c8])] w fun e w' => e = .returned (.bool true) ∧ Below w.heap.size w w' := by
  have HA := Lib.hid (fun W hW => awake_is W hW)
  have HW := Lib.hid hw
  have HT := Lib.hid ht0
  have HTO := Lib.hid (fun W => to_is 1 c1 c2 c3 c4 c5 c6 c7 c8 W)
  have HPP := Lib.hid (fun W hv ht => pp_er 1 c1 c2 c3 c4 c5 c6 c7 c8 5 p (by decide) h W hv ht)
  have HRP := Lib.hid (fun W => rp_er 1 c1 c2 c3 c4 c5 c6 c7 c8 5 p (by decide) h W)
  have gA : Below w.heap.size w (w.alloc (.cells (List.toArray [.int .i64 1, .int .i64 c1, .int .i64 c2, .int .i64 c3, .int .i64 c4, .int .i64 c5, .int .i64 c6, .int .i64 c7, .int .i64 c8]) 31)) := by go_grown
  have bA := Bl.new w [.int .i64 1, .int .i64 c1, .int .i64 c2, .int .i64 c3, .int .i64 c4, .int .i64 c5, .int .i64 c6, .int .i64 c7, .int .i64 c8] 31
  have HG := Lib.hid (And.intro gA bA)
  clear h gA bA hw ht0
  go_enter Tryd.func4, Tryd.ntmps4
  go_wp2_with fail
  refine (HTO.out _).mono ?_
  rintro e1 w1 ⟨rfl, hb1⟩
  have HG1 := Lib.hid (And.intro (Below.step HG.out.1 hb1) (HG.out.2.below hb1))
  clear hb1 HTO
  go_wp2_with fail
  refine (HPP.out _ (HW.out.below HG1.out.1).vb (HT.out.below HG1.out.1)).mono ?_
  rintro e2 w2 ⟨v2, rfl, hch, hb2⟩
  have HG2 := Lib.hid (And.intro (Below.step HG1.out.1 hb2) (HG1.out.2.below hb2))
  have HCH := Lib.hid hch
  clear hch
  have bb := HG2.out.2
  have x0 := bb.cell 0 _ rfl
  have x1 := bb.cell 1 _ rfl
  have x2 := bb.cell 2 _ rfl
  have x3 := bb.cell 3 _ rfl
  have x4 := bb.cell 4 _ rfl
  have x5 := bb.cell 5 _ rfl
  have x6 := bb.cell 6 _ rfl
  have x7 := bb.cell 7 _ rfl
  have x8 := bb.cell 8 _ rfl
  clear hb2 HPP bb
  go_wp2_with fail
  refine (HRP.out _).mono ?_
  rintro e3 w3 ⟨rfl, hb3⟩
  have HG3 := Lib.hid (And.intro (Below.step HG2.out.1 hb3) (HG2.out.2.below hb3))
  have HCH3 := Lib.hid (HCH.out.below hb3)
  clear hb3 HRP x0 x1 x2 x3 x4 x5 x6 x7 x8
  go_wp2_with fail
  refine (num_ch [.pl p] 5 (by decide) (by decide) v2 w3 HCH3.out).mono ?_
  rintro e4 w4 ⟨rfl, hb4⟩
  have HG4 := Lib.hid (And.intro (Below.step HG3.out.1 hb4) (HG3.out.2.below hb4))
  have HCH4 := Lib.hid (HCH3.out.below hb4)
  clear hb4
  go_wp2_with fail
  refine (place_some p [.pl p] 5 v2 w4 HCH4.out (HW.out.below HG4.out.1).hg (HW.out.below HG4.out.1).hgl rfl).mono ?_
  rintro e5 w5 ⟨rfl, hb5⟩
  have HG5 := Lib.hid (And.intro (Below.step HG4.out.1 hb5) (HG4.out.2.below hb5))
  have y0 := HG5.out.2.cell 0 _ rfl
  clear hb5
  have lA := HG5.out.2.lt
  go_wp2_with fail
  have gS : Below w5.heap.size w5 (w5.alloc (.cells (List.toArray [.string ⟨#[115, 117, 98, 109, 105, 116]⟩, .string ⟨#[99, 97, 110, 99, 101, 108]⟩, .string ⟨#[112, 111, 108, 108]⟩, .string ⟨#[118, 105, 101, 119]⟩]) 9)) := by go_grown
  have HG6 := Lib.hid (And.intro (Below.step HG5.out.1 gS) (HG5.out.2.below gS))
  clear gS
  refine (HA.out _ (HW.out.below HG6.out.1)).mono ?_
  rintro e7 w7 ⟨rfl, hb7⟩
  have HG7 := Lib.hid (And.intro (Below.step HG6.out.1 hb7) (HG6.out.2.below hb7))
  have z0 := HG7.out.2.cell 0 _ rfl
  clear hb7 y0 lA
  go_wp2_with fail
  refine (verb_is 1 (by decide) w7 (HW.out.below HG7.out.1).vb).mono ?_
  rintro e8 w8 ⟨rfl, hw8⟩
  subst hw8
  have hvs : (vb 1).toList = [115, 117, 98, 109, 105, 116] := by kernel_rfl
  have hvt : (vb ((1 : Int).toNat)).toList = (vb 1).toList := rfl
  rw [show vb ((1 : Int).toNat) = (⟨#[115, 117, 98, 109, 105, 116]⟩ : ByteArray) from rfl]
  clear hvs hvt
  go_wp2_with fail
  go_ret
  exact ⟨by first | rfl | (simp; done), HG7.out.1⟩
set_option maxRecDepth 100000 in
set_option maxHeartbeats 8000000 in
theorem way_1_1 (c1 c2 c3 c4 c5 c6 c7 c8 : Int) (w : World) (hw : Wd w) (ht0 : Tb w) (p : Int) (h : pt [(1 : Int), c1, c2, c3, c4, c5, c6, c7, c8] = .er 1 p) : Calls Tryd.prog 4 #[.agg (List.toArray [.int .i64 1, .int .i64 c1, .int .i64 c2, .int .i64 c3, .int .i64 c4, .int .i64 c5, .int .i64 c6, .int .i64 c7, .int .i64 c8])] w fun e w' => e = .returned (.bool true) ∧ Below w.heap.size w w' := by
  have HA := Lib.hid (fun W hW => awake_is W hW)
  have HW := Lib.hid hw
  have HT := Lib.hid ht0
  have HTO := Lib.hid (fun W => to_is 1 c1 c2 c3 c4 c5 c6 c7 c8 W)
  have HPP := Lib.hid (fun W hv ht => pp_er 1 c1 c2 c3 c4 c5 c6 c7 c8 1 p (by decide) h W hv ht)
  have HRP := Lib.hid (fun W => rp_er 1 c1 c2 c3 c4 c5 c6 c7 c8 1 p (by decide) h W)
  have gA : Below w.heap.size w (w.alloc (.cells (List.toArray [.int .i64 1, .int .i64 c1, .int .i64 c2, .int .i64 c3, .int .i64 c4, .int .i64 c5, .int .i64 c6, .int .i64 c7, .int .i64 c8]) 31)) := by go_grown
  have bA := Bl.new w [.int .i64 1, .int .i64 c1, .int .i64 c2, .int .i64 c3, .int .i64 c4, .int .i64 c5, .int .i64 c6, .int .i64 c7, .int .i64 c8] 31
  have HG := Lib.hid (And.intro gA bA)
  clear h gA bA hw ht0
  go_enter Tryd.func4, Tryd.ntmps4
  go_wp2_with fail
  refine (HTO.out _).mono ?_
  rintro e1 w1 ⟨rfl, hb1⟩
  have HG1 := Lib.hid (And.intro (Below.step HG.out.1 hb1) (HG.out.2.below hb1))
  clear hb1 HTO
  go_wp2_with fail
  refine (HPP.out _ (HW.out.below HG1.out.1).vb (HT.out.below HG1.out.1)).mono ?_
  rintro e2 w2 ⟨v2, rfl, hch, hb2⟩
  have HG2 := Lib.hid (And.intro (Below.step HG1.out.1 hb2) (HG1.out.2.below hb2))
  have HCH := Lib.hid hch
  clear hch
  have bb := HG2.out.2
  have x0 := bb.cell 0 _ rfl
  have x1 := bb.cell 1 _ rfl
  have x2 := bb.cell 2 _ rfl
  have x3 := bb.cell 3 _ rfl
  have x4 := bb.cell 4 _ rfl
  have x5 := bb.cell 5 _ rfl
  have x6 := bb.cell 6 _ rfl
  have x7 := bb.cell 7 _ rfl
  have x8 := bb.cell 8 _ rfl
  clear hb2 HPP bb
  go_wp2_with fail
  refine (HRP.out _).mono ?_
  rintro e3 w3 ⟨rfl, hb3⟩
  have HG3 := Lib.hid (And.intro (Below.step HG2.out.1 hb3) (HG2.out.2.below hb3))
  have HCH3 := Lib.hid (HCH.out.below hb3)
  clear hb3 HRP x0 x1 x2 x3 x4 x5 x6 x7 x8
  go_wp2_with fail
  refine (num_ch [.pl p] 1 (by decide) (by decide) v2 w3 HCH3.out).mono ?_
  rintro e4 w4 ⟨rfl, hb4⟩
  have HG4 := Lib.hid (And.intro (Below.step HG3.out.1 hb4) (HG3.out.2.below hb4))
  have HCH4 := Lib.hid (HCH3.out.below hb4)
  clear hb4
  go_wp2_with fail
  refine (place_some p [.pl p] 1 v2 w4 HCH4.out (HW.out.below HG4.out.1).hg (HW.out.below HG4.out.1).hgl rfl).mono ?_
  rintro e5 w5 ⟨rfl, hb5⟩
  have HG5 := Lib.hid (And.intro (Below.step HG4.out.1 hb5) (HG4.out.2.below hb5))
  have y0 := HG5.out.2.cell 0 _ rfl
  clear hb5
  have lA := HG5.out.2.lt
  go_wp2_with fail
  have gS : Below w5.heap.size w5 (w5.alloc (.cells (List.toArray [.string ⟨#[115, 117, 98, 109, 105, 116]⟩, .string ⟨#[99, 97, 110, 99, 101, 108]⟩, .string ⟨#[112, 111, 108, 108]⟩, .string ⟨#[118, 105, 101, 119]⟩]) 9)) := by go_grown
  have HG6 := Lib.hid (And.intro (Below.step HG5.out.1 gS) (HG5.out.2.below gS))
  clear gS
  refine (HA.out _ (HW.out.below HG6.out.1)).mono ?_
  rintro e7 w7 ⟨rfl, hb7⟩
  have HG7 := Lib.hid (And.intro (Below.step HG6.out.1 hb7) (HG6.out.2.below hb7))
  have z0 := HG7.out.2.cell 0 _ rfl
  clear hb7 y0 lA
  go_wp2_with fail
  refine (verb_is 1 (by decide) w7 (HW.out.below HG7.out.1).vb).mono ?_
  rintro e8 w8 ⟨rfl, hw8⟩
  subst hw8
  have hvs : (vb 1).toList = [115, 117, 98, 109, 105, 116] := by kernel_rfl
  have hvt : (vb ((1 : Int).toNat)).toList = (vb 1).toList := rfl
  rw [show vb ((1 : Int).toNat) = (⟨#[115, 117, 98, 109, 105, 116]⟩ : ByteArray) from rfl]
  clear hvs hvt
  go_wp2_with fail
  go_ret
  exact ⟨by first | rfl | (simp; done), HG7.out.1⟩
set_option maxRecDepth 100000 in
set_option maxHeartbeats 8000000 in
theorem way_1_ok (c1 c2 c3 c4 c5 c6 c7 c8 : Int) (w : World) (hw : Wd w) (ht0 : Tb w) (l : List UInt8) (h : pt [(1 : Int), c1, c2, c3, c4, c5, c6, c7, c8] = .ok l) : Calls Tryd.prog 4 #[.agg (List.toArray [.int .i64 1, .int .i64 c1, .int .i64 c2, .int .i64 c3, .int .i64 c4, .int .i64 c5, .int .i64 c6, .int .i64 c7, .int .i64 c8])] w fun e w' => e = .returned (.bool true) ∧ Below w.heap.size w w' := by
  have HA := Lib.hid (fun W hW => awake_is W hW)
  have HW := Lib.hid hw
  have HT := Lib.hid ht0
  have HTO := Lib.hid (fun W => to_is 1 c1 c2 c3 c4 c5 c6 c7 c8 W)
  have HPP := Lib.hid (fun W hv ht => pp_ok 1 c1 c2 c3 c4 c5 c6 c7 c8 l h W hv ht)
  have HRP := Lib.hid (fun W => rp_ok 1 c1 c2 c3 c4 c5 c6 c7 c8 l h W)
  have gA : Below w.heap.size w (w.alloc (.cells (List.toArray [.int .i64 1, .int .i64 c1, .int .i64 c2, .int .i64 c3, .int .i64 c4, .int .i64 c5, .int .i64 c6, .int .i64 c7, .int .i64 c8]) 31)) := by go_grown
  have bA := Bl.new w [.int .i64 1, .int .i64 c1, .int .i64 c2, .int .i64 c3, .int .i64 c4, .int .i64 c5, .int .i64 c6, .int .i64 c7, .int .i64 c8] 31
  have HG := Lib.hid (And.intro gA bA)
  clear h gA bA hw ht0
  go_enter Tryd.func4, Tryd.ntmps4
  go_wp2_with fail
  refine (HTO.out _).mono ?_
  rintro e1 w1 ⟨rfl, hb1⟩
  have HG1 := Lib.hid (And.intro (Below.step HG.out.1 hb1) (HG.out.2.below hb1))
  clear hb1 HTO
  go_wp2_with fail
  refine (HPP.out _ (HW.out.below HG1.out.1).vb (HT.out.below HG1.out.1)).mono ?_
  rintro e2 w2 ⟨rfl, hb2⟩
  have HG2 := Lib.hid (And.intro (Below.step HG1.out.1 hb2) (HG1.out.2.below hb2))
  have bb := HG2.out.2
  have x0 := bb.cell 0 _ rfl
  have x1 := bb.cell 1 _ rfl
  have x2 := bb.cell 2 _ rfl
  have x3 := bb.cell 3 _ rfl
  have x4 := bb.cell 4 _ rfl
  have x5 := bb.cell 5 _ rfl
  have x6 := bb.cell 6 _ rfl
  have x7 := bb.cell 7 _ rfl
  have x8 := bb.cell 8 _ rfl
  clear hb2 HPP bb
  go_wp2_with fail
  refine (HRP.out _).mono ?_
  rintro e3 w3 ⟨rfl, hb3⟩
  have HG3 := Lib.hid (And.intro (Below.step HG2.out.1 hb3) (HG2.out.2.below hb3))
  clear hb3 HRP x0 x1 x2 x3 x4 x5 x6 x7 x8
  go_wp2_with fail
  refine (num_nil w3).mono ?_
  rintro e4 w4 ⟨rfl, hw4⟩
  have HG4 : Hid (Below w.heap.size w w4 ∧ Bl w.heap.size [.int .i64 1, .int .i64 c1, .int .i64 c2, .int .i64 c3, .int .i64 c4, .int .i64 c5, .int .i64 c6, .int .i64 c7, .int .i64 c8] w4) := by rw [← hw4]; exact HG3
  have y0 := HG4.out.2.cell 0 _ rfl
  clear hw4
  have lA := HG4.out.2.lt
  go_wp2_with fail
  have gS : Below w4.heap.size w4 (w4.alloc (.cells (List.toArray [.string ⟨#[115, 117, 98, 109, 105, 116]⟩, .string ⟨#[99, 97, 110, 99, 101, 108]⟩, .string ⟨#[112, 111, 108, 108]⟩, .string ⟨#[118, 105, 101, 119]⟩]) 9)) := by go_grown
  have HG6 := Lib.hid (And.intro (Below.step HG4.out.1 gS) (HG4.out.2.below gS))
  clear gS
  refine (HA.out _ (HW.out.below HG6.out.1)).mono ?_
  rintro e7 w7 ⟨rfl, hb7⟩
  have HG7 := Lib.hid (And.intro (Below.step HG6.out.1 hb7) (HG6.out.2.below hb7))
  have z0 := HG7.out.2.cell 0 _ rfl
  clear hb7 y0 lA
  go_wp2_with fail
  refine (verb_is 1 (by decide) w7 (HW.out.below HG7.out.1).vb).mono ?_
  rintro e8 w8 ⟨rfl, hw8⟩
  subst hw8
  have hvs : (vb 1).toList = [115, 117, 98, 109, 105, 116] := by kernel_rfl
  have hvt : (vb ((1 : Int).toNat)).toList = (vb 1).toList := rfl
  rw [show vb ((1 : Int).toNat) = (⟨#[115, 117, 98, 109, 105, 116]⟩ : ByteArray) from rfl]
  clear hvs hvt
  go_wp2_with fail
  go_ret
  exact ⟨by first | rfl | (simp; done), HG7.out.1⟩
set_option maxRecDepth 100000 in
set_option maxHeartbeats 8000000 in
theorem way_2_5 (c1 c2 c3 c4 c5 c6 c7 c8 : Int) (w : World) (hw : Wd w) (ht0 : Tb w) (p : Int) (h : pt [(2 : Int), c1, c2, c3, c4, c5, c6, c7, c8] = .er 5 p) : Calls Tryd.prog 4 #[.agg (List.toArray [.int .i64 2, .int .i64 c1, .int .i64 c2, .int .i64 c3, .int .i64 c4, .int .i64 c5, .int .i64 c6, .int .i64 c7, .int .i64 c8])] w fun e w' => e = .returned (.bool true) ∧ Below w.heap.size w w' := by
  have HA := Lib.hid (fun W hW => awake_is W hW)
  have HW := Lib.hid hw
  have HT := Lib.hid ht0
  have HTO := Lib.hid (fun W => to_is 2 c1 c2 c3 c4 c5 c6 c7 c8 W)
  have HPP := Lib.hid (fun W hv ht => pp_er 2 c1 c2 c3 c4 c5 c6 c7 c8 5 p (by decide) h W hv ht)
  have HRP := Lib.hid (fun W => rp_er 2 c1 c2 c3 c4 c5 c6 c7 c8 5 p (by decide) h W)
  have gA : Below w.heap.size w (w.alloc (.cells (List.toArray [.int .i64 2, .int .i64 c1, .int .i64 c2, .int .i64 c3, .int .i64 c4, .int .i64 c5, .int .i64 c6, .int .i64 c7, .int .i64 c8]) 31)) := by go_grown
  have bA := Bl.new w [.int .i64 2, .int .i64 c1, .int .i64 c2, .int .i64 c3, .int .i64 c4, .int .i64 c5, .int .i64 c6, .int .i64 c7, .int .i64 c8] 31
  have HG := Lib.hid (And.intro gA bA)
  clear h gA bA hw ht0
  go_enter Tryd.func4, Tryd.ntmps4
  go_wp2_with fail
  refine (HTO.out _).mono ?_
  rintro e1 w1 ⟨rfl, hb1⟩
  have HG1 := Lib.hid (And.intro (Below.step HG.out.1 hb1) (HG.out.2.below hb1))
  clear hb1 HTO
  go_wp2_with fail
  refine (HPP.out _ (HW.out.below HG1.out.1).vb (HT.out.below HG1.out.1)).mono ?_
  rintro e2 w2 ⟨v2, rfl, hch, hb2⟩
  have HG2 := Lib.hid (And.intro (Below.step HG1.out.1 hb2) (HG1.out.2.below hb2))
  have HCH := Lib.hid hch
  clear hch
  have bb := HG2.out.2
  have x0 := bb.cell 0 _ rfl
  have x1 := bb.cell 1 _ rfl
  have x2 := bb.cell 2 _ rfl
  have x3 := bb.cell 3 _ rfl
  have x4 := bb.cell 4 _ rfl
  have x5 := bb.cell 5 _ rfl
  have x6 := bb.cell 6 _ rfl
  have x7 := bb.cell 7 _ rfl
  have x8 := bb.cell 8 _ rfl
  clear hb2 HPP bb
  go_wp2_with fail
  refine (HRP.out _).mono ?_
  rintro e3 w3 ⟨rfl, hb3⟩
  have HG3 := Lib.hid (And.intro (Below.step HG2.out.1 hb3) (HG2.out.2.below hb3))
  have HCH3 := Lib.hid (HCH.out.below hb3)
  clear hb3 HRP x0 x1 x2 x3 x4 x5 x6 x7 x8
  go_wp2_with fail
  refine (num_ch [.pl p] 5 (by decide) (by decide) v2 w3 HCH3.out).mono ?_
  rintro e4 w4 ⟨rfl, hb4⟩
  have HG4 := Lib.hid (And.intro (Below.step HG3.out.1 hb4) (HG3.out.2.below hb4))
  have HCH4 := Lib.hid (HCH3.out.below hb4)
  clear hb4
  go_wp2_with fail
  refine (place_some p [.pl p] 5 v2 w4 HCH4.out (HW.out.below HG4.out.1).hg (HW.out.below HG4.out.1).hgl rfl).mono ?_
  rintro e5 w5 ⟨rfl, hb5⟩
  have HG5 := Lib.hid (And.intro (Below.step HG4.out.1 hb5) (HG4.out.2.below hb5))
  have y0 := HG5.out.2.cell 0 _ rfl
  clear hb5
  have lA := HG5.out.2.lt
  go_wp2_with fail
  have gS : Below w5.heap.size w5 (w5.alloc (.cells (List.toArray [.string ⟨#[115, 117, 98, 109, 105, 116]⟩, .string ⟨#[99, 97, 110, 99, 101, 108]⟩, .string ⟨#[112, 111, 108, 108]⟩, .string ⟨#[118, 105, 101, 119]⟩]) 9)) := by go_grown
  have HG6 := Lib.hid (And.intro (Below.step HG5.out.1 gS) (HG5.out.2.below gS))
  clear gS
  refine (HA.out _ (HW.out.below HG6.out.1)).mono ?_
  rintro e7 w7 ⟨rfl, hb7⟩
  have HG7 := Lib.hid (And.intro (Below.step HG6.out.1 hb7) (HG6.out.2.below hb7))
  have z0 := HG7.out.2.cell 0 _ rfl
  clear hb7 y0 lA
  go_wp2_with fail
  refine (verb_is 2 (by decide) w7 (HW.out.below HG7.out.1).vb).mono ?_
  rintro e8 w8 ⟨rfl, hw8⟩
  subst hw8
  have hvs : (vb 2).toList = [99, 97, 110, 99, 101, 108] := by kernel_rfl
  have hvt : (vb ((2 : Int).toNat)).toList = (vb 2).toList := rfl
  rw [show vb ((2 : Int).toNat) = (⟨#[99, 97, 110, 99, 101, 108]⟩ : ByteArray) from rfl]
  clear hvs hvt
  go_wp2_with fail
  go_ret
  exact ⟨by first | rfl | (simp; done), HG7.out.1⟩
set_option maxRecDepth 100000 in
set_option maxHeartbeats 8000000 in
theorem way_2_1 (c1 c2 c3 c4 c5 c6 c7 c8 : Int) (w : World) (hw : Wd w) (ht0 : Tb w) (p : Int) (h : pt [(2 : Int), c1, c2, c3, c4, c5, c6, c7, c8] = .er 1 p) : Calls Tryd.prog 4 #[.agg (List.toArray [.int .i64 2, .int .i64 c1, .int .i64 c2, .int .i64 c3, .int .i64 c4, .int .i64 c5, .int .i64 c6, .int .i64 c7, .int .i64 c8])] w fun e w' => e = .returned (.bool true) ∧ Below w.heap.size w w' := by
  have HA := Lib.hid (fun W hW => awake_is W hW)
  have HW := Lib.hid hw
  have HT := Lib.hid ht0
  have HTO := Lib.hid (fun W => to_is 2 c1 c2 c3 c4 c5 c6 c7 c8 W)
  have HPP := Lib.hid (fun W hv ht => pp_er 2 c1 c2 c3 c4 c5 c6 c7 c8 1 p (by decide) h W hv ht)
  have HRP := Lib.hid (fun W => rp_er 2 c1 c2 c3 c4 c5 c6 c7 c8 1 p (by decide) h W)
  have gA : Below w.heap.size w (w.alloc (.cells (List.toArray [.int .i64 2, .int .i64 c1, .int .i64 c2, .int .i64 c3, .int .i64 c4, .int .i64 c5, .int .i64 c6, .int .i64 c7, .int .i64 c8]) 31)) := by go_grown
  have bA := Bl.new w [.int .i64 2, .int .i64 c1, .int .i64 c2, .int .i64 c3, .int .i64 c4, .int .i64 c5, .int .i64 c6, .int .i64 c7, .int .i64 c8] 31
  have HG := Lib.hid (And.intro gA bA)
  clear h gA bA hw ht0
  go_enter Tryd.func4, Tryd.ntmps4
  go_wp2_with fail
  refine (HTO.out _).mono ?_
  rintro e1 w1 ⟨rfl, hb1⟩
  have HG1 := Lib.hid (And.intro (Below.step HG.out.1 hb1) (HG.out.2.below hb1))
  clear hb1 HTO
  go_wp2_with fail
  refine (HPP.out _ (HW.out.below HG1.out.1).vb (HT.out.below HG1.out.1)).mono ?_
  rintro e2 w2 ⟨v2, rfl, hch, hb2⟩
  have HG2 := Lib.hid (And.intro (Below.step HG1.out.1 hb2) (HG1.out.2.below hb2))
  have HCH := Lib.hid hch
  clear hch
  have bb := HG2.out.2
  have x0 := bb.cell 0 _ rfl
  have x1 := bb.cell 1 _ rfl
  have x2 := bb.cell 2 _ rfl
  have x3 := bb.cell 3 _ rfl
  have x4 := bb.cell 4 _ rfl
  have x5 := bb.cell 5 _ rfl
  have x6 := bb.cell 6 _ rfl
  have x7 := bb.cell 7 _ rfl
  have x8 := bb.cell 8 _ rfl
  clear hb2 HPP bb
  go_wp2_with fail
  refine (HRP.out _).mono ?_
  rintro e3 w3 ⟨rfl, hb3⟩
  have HG3 := Lib.hid (And.intro (Below.step HG2.out.1 hb3) (HG2.out.2.below hb3))
  have HCH3 := Lib.hid (HCH.out.below hb3)
  clear hb3 HRP x0 x1 x2 x3 x4 x5 x6 x7 x8
  go_wp2_with fail
  refine (num_ch [.pl p] 1 (by decide) (by decide) v2 w3 HCH3.out).mono ?_
  rintro e4 w4 ⟨rfl, hb4⟩
  have HG4 := Lib.hid (And.intro (Below.step HG3.out.1 hb4) (HG3.out.2.below hb4))
  have HCH4 := Lib.hid (HCH3.out.below hb4)
  clear hb4
  go_wp2_with fail
  refine (place_some p [.pl p] 1 v2 w4 HCH4.out (HW.out.below HG4.out.1).hg (HW.out.below HG4.out.1).hgl rfl).mono ?_
  rintro e5 w5 ⟨rfl, hb5⟩
  have HG5 := Lib.hid (And.intro (Below.step HG4.out.1 hb5) (HG4.out.2.below hb5))
  have y0 := HG5.out.2.cell 0 _ rfl
  clear hb5
  have lA := HG5.out.2.lt
  go_wp2_with fail
  have gS : Below w5.heap.size w5 (w5.alloc (.cells (List.toArray [.string ⟨#[115, 117, 98, 109, 105, 116]⟩, .string ⟨#[99, 97, 110, 99, 101, 108]⟩, .string ⟨#[112, 111, 108, 108]⟩, .string ⟨#[118, 105, 101, 119]⟩]) 9)) := by go_grown
  have HG6 := Lib.hid (And.intro (Below.step HG5.out.1 gS) (HG5.out.2.below gS))
  clear gS
  refine (HA.out _ (HW.out.below HG6.out.1)).mono ?_
  rintro e7 w7 ⟨rfl, hb7⟩
  have HG7 := Lib.hid (And.intro (Below.step HG6.out.1 hb7) (HG6.out.2.below hb7))
  have z0 := HG7.out.2.cell 0 _ rfl
  clear hb7 y0 lA
  go_wp2_with fail
  refine (verb_is 2 (by decide) w7 (HW.out.below HG7.out.1).vb).mono ?_
  rintro e8 w8 ⟨rfl, hw8⟩
  subst hw8
  have hvs : (vb 2).toList = [99, 97, 110, 99, 101, 108] := by kernel_rfl
  have hvt : (vb ((2 : Int).toNat)).toList = (vb 2).toList := rfl
  rw [show vb ((2 : Int).toNat) = (⟨#[99, 97, 110, 99, 101, 108]⟩ : ByteArray) from rfl]
  clear hvs hvt
  go_wp2_with fail
  go_ret
  exact ⟨by first | rfl | (simp; done), HG7.out.1⟩
set_option maxRecDepth 100000 in
set_option maxHeartbeats 8000000 in
theorem way_2_ok (c1 c2 c3 c4 c5 c6 c7 c8 : Int) (w : World) (hw : Wd w) (ht0 : Tb w) (l : List UInt8) (h : pt [(2 : Int), c1, c2, c3, c4, c5, c6, c7, c8] = .ok l) : Calls Tryd.prog 4 #[.agg (List.toArray [.int .i64 2, .int .i64 c1, .int .i64 c2, .int .i64 c3, .int .i64 c4, .int .i64 c5, .int .i64 c6, .int .i64 c7, .int .i64 c8])] w fun e w' => e = .returned (.bool true) ∧ Below w.heap.size w w' := by
  have HA := Lib.hid (fun W hW => awake_is W hW)
  have HW := Lib.hid hw
  have HT := Lib.hid ht0
  have HTO := Lib.hid (fun W => to_is 2 c1 c2 c3 c4 c5 c6 c7 c8 W)
  have HPP := Lib.hid (fun W hv ht => pp_ok 2 c1 c2 c3 c4 c5 c6 c7 c8 l h W hv ht)
  have HRP := Lib.hid (fun W => rp_ok 2 c1 c2 c3 c4 c5 c6 c7 c8 l h W)
  have gA : Below w.heap.size w (w.alloc (.cells (List.toArray [.int .i64 2, .int .i64 c1, .int .i64 c2, .int .i64 c3, .int .i64 c4, .int .i64 c5, .int .i64 c6, .int .i64 c7, .int .i64 c8]) 31)) := by go_grown
  have bA := Bl.new w [.int .i64 2, .int .i64 c1, .int .i64 c2, .int .i64 c3, .int .i64 c4, .int .i64 c5, .int .i64 c6, .int .i64 c7, .int .i64 c8] 31
  have HG := Lib.hid (And.intro gA bA)
  clear h gA bA hw ht0
  go_enter Tryd.func4, Tryd.ntmps4
  go_wp2_with fail
  refine (HTO.out _).mono ?_
  rintro e1 w1 ⟨rfl, hb1⟩
  have HG1 := Lib.hid (And.intro (Below.step HG.out.1 hb1) (HG.out.2.below hb1))
  clear hb1 HTO
  go_wp2_with fail
  refine (HPP.out _ (HW.out.below HG1.out.1).vb (HT.out.below HG1.out.1)).mono ?_
  rintro e2 w2 ⟨rfl, hb2⟩
  have HG2 := Lib.hid (And.intro (Below.step HG1.out.1 hb2) (HG1.out.2.below hb2))
  have bb := HG2.out.2
  have x0 := bb.cell 0 _ rfl
  have x1 := bb.cell 1 _ rfl
  have x2 := bb.cell 2 _ rfl
  have x3 := bb.cell 3 _ rfl
  have x4 := bb.cell 4 _ rfl
  have x5 := bb.cell 5 _ rfl
  have x6 := bb.cell 6 _ rfl
  have x7 := bb.cell 7 _ rfl
  have x8 := bb.cell 8 _ rfl
  clear hb2 HPP bb
  go_wp2_with fail
  refine (HRP.out _).mono ?_
  rintro e3 w3 ⟨rfl, hb3⟩
  have HG3 := Lib.hid (And.intro (Below.step HG2.out.1 hb3) (HG2.out.2.below hb3))
  clear hb3 HRP x0 x1 x2 x3 x4 x5 x6 x7 x8
  go_wp2_with fail
  refine (num_nil w3).mono ?_
  rintro e4 w4 ⟨rfl, hw4⟩
  have HG4 : Hid (Below w.heap.size w w4 ∧ Bl w.heap.size [.int .i64 2, .int .i64 c1, .int .i64 c2, .int .i64 c3, .int .i64 c4, .int .i64 c5, .int .i64 c6, .int .i64 c7, .int .i64 c8] w4) := by rw [← hw4]; exact HG3
  have y0 := HG4.out.2.cell 0 _ rfl
  clear hw4
  have lA := HG4.out.2.lt
  go_wp2_with fail
  have gS : Below w4.heap.size w4 (w4.alloc (.cells (List.toArray [.string ⟨#[115, 117, 98, 109, 105, 116]⟩, .string ⟨#[99, 97, 110, 99, 101, 108]⟩, .string ⟨#[112, 111, 108, 108]⟩, .string ⟨#[118, 105, 101, 119]⟩]) 9)) := by go_grown
  have HG6 := Lib.hid (And.intro (Below.step HG4.out.1 gS) (HG4.out.2.below gS))
  clear gS
  refine (HA.out _ (HW.out.below HG6.out.1)).mono ?_
  rintro e7 w7 ⟨rfl, hb7⟩
  have HG7 := Lib.hid (And.intro (Below.step HG6.out.1 hb7) (HG6.out.2.below hb7))
  have z0 := HG7.out.2.cell 0 _ rfl
  clear hb7 y0 lA
  go_wp2_with fail
  refine (verb_is 2 (by decide) w7 (HW.out.below HG7.out.1).vb).mono ?_
  rintro e8 w8 ⟨rfl, hw8⟩
  subst hw8
  have hvs : (vb 2).toList = [99, 97, 110, 99, 101, 108] := by kernel_rfl
  have hvt : (vb ((2 : Int).toNat)).toList = (vb 2).toList := rfl
  rw [show vb ((2 : Int).toNat) = (⟨#[99, 97, 110, 99, 101, 108]⟩ : ByteArray) from rfl]
  clear hvs hvt
  go_wp2_with fail
  go_ret
  exact ⟨by first | rfl | (simp; done), HG7.out.1⟩
set_option maxRecDepth 100000 in
set_option maxHeartbeats 8000000 in
theorem way_3_5 (c1 c2 c3 c4 c5 c6 c7 c8 : Int) (w : World) (hw : Wd w) (ht0 : Tb w) (p : Int) (h : pt [(3 : Int), c1, c2, c3, c4, c5, c6, c7, c8] = .er 5 p) : Calls Tryd.prog 4 #[.agg (List.toArray [.int .i64 3, .int .i64 c1, .int .i64 c2, .int .i64 c3, .int .i64 c4, .int .i64 c5, .int .i64 c6, .int .i64 c7, .int .i64 c8])] w fun e w' => e = .returned (.bool true) ∧ Below w.heap.size w w' := by
  have HA := Lib.hid (fun W hW => awake_is W hW)
  have HW := Lib.hid hw
  have HT := Lib.hid ht0
  have HTO := Lib.hid (fun W => to_is 3 c1 c2 c3 c4 c5 c6 c7 c8 W)
  have HPP := Lib.hid (fun W hv ht => pp_er 3 c1 c2 c3 c4 c5 c6 c7 c8 5 p (by decide) h W hv ht)
  have HRP := Lib.hid (fun W => rp_er 3 c1 c2 c3 c4 c5 c6 c7 c8 5 p (by decide) h W)
  have gA : Below w.heap.size w (w.alloc (.cells (List.toArray [.int .i64 3, .int .i64 c1, .int .i64 c2, .int .i64 c3, .int .i64 c4, .int .i64 c5, .int .i64 c6, .int .i64 c7, .int .i64 c8]) 31)) := by go_grown
  have bA := Bl.new w [.int .i64 3, .int .i64 c1, .int .i64 c2, .int .i64 c3, .int .i64 c4, .int .i64 c5, .int .i64 c6, .int .i64 c7, .int .i64 c8] 31
  have HG := Lib.hid (And.intro gA bA)
  clear h gA bA hw ht0
  go_enter Tryd.func4, Tryd.ntmps4
  go_wp2_with fail
  refine (HTO.out _).mono ?_
  rintro e1 w1 ⟨rfl, hb1⟩
  have HG1 := Lib.hid (And.intro (Below.step HG.out.1 hb1) (HG.out.2.below hb1))
  clear hb1 HTO
  go_wp2_with fail
  refine (HPP.out _ (HW.out.below HG1.out.1).vb (HT.out.below HG1.out.1)).mono ?_
  rintro e2 w2 ⟨v2, rfl, hch, hb2⟩
  have HG2 := Lib.hid (And.intro (Below.step HG1.out.1 hb2) (HG1.out.2.below hb2))
  have HCH := Lib.hid hch
  clear hch
  have bb := HG2.out.2
  have x0 := bb.cell 0 _ rfl
  have x1 := bb.cell 1 _ rfl
  have x2 := bb.cell 2 _ rfl
  have x3 := bb.cell 3 _ rfl
  have x4 := bb.cell 4 _ rfl
  have x5 := bb.cell 5 _ rfl
  have x6 := bb.cell 6 _ rfl
  have x7 := bb.cell 7 _ rfl
  have x8 := bb.cell 8 _ rfl
  clear hb2 HPP bb
  go_wp2_with fail
  refine (HRP.out _).mono ?_
  rintro e3 w3 ⟨rfl, hb3⟩
  have HG3 := Lib.hid (And.intro (Below.step HG2.out.1 hb3) (HG2.out.2.below hb3))
  have HCH3 := Lib.hid (HCH.out.below hb3)
  clear hb3 HRP x0 x1 x2 x3 x4 x5 x6 x7 x8
  go_wp2_with fail
  refine (num_ch [.pl p] 5 (by decide) (by decide) v2 w3 HCH3.out).mono ?_
  rintro e4 w4 ⟨rfl, hb4⟩
  have HG4 := Lib.hid (And.intro (Below.step HG3.out.1 hb4) (HG3.out.2.below hb4))
  have HCH4 := Lib.hid (HCH3.out.below hb4)
  clear hb4
  go_wp2_with fail
  refine (place_some p [.pl p] 5 v2 w4 HCH4.out (HW.out.below HG4.out.1).hg (HW.out.below HG4.out.1).hgl rfl).mono ?_
  rintro e5 w5 ⟨rfl, hb5⟩
  have HG5 := Lib.hid (And.intro (Below.step HG4.out.1 hb5) (HG4.out.2.below hb5))
  have y0 := HG5.out.2.cell 0 _ rfl
  clear hb5
  have lA := HG5.out.2.lt
  go_wp2_with fail
  have gS : Below w5.heap.size w5 (w5.alloc (.cells (List.toArray [.string ⟨#[115, 117, 98, 109, 105, 116]⟩, .string ⟨#[99, 97, 110, 99, 101, 108]⟩, .string ⟨#[112, 111, 108, 108]⟩, .string ⟨#[118, 105, 101, 119]⟩]) 9)) := by go_grown
  have HG6 := Lib.hid (And.intro (Below.step HG5.out.1 gS) (HG5.out.2.below gS))
  clear gS
  refine (HA.out _ (HW.out.below HG6.out.1)).mono ?_
  rintro e7 w7 ⟨rfl, hb7⟩
  have HG7 := Lib.hid (And.intro (Below.step HG6.out.1 hb7) (HG6.out.2.below hb7))
  have z0 := HG7.out.2.cell 0 _ rfl
  clear hb7 y0 lA
  go_wp2_with fail
  refine (verb_is 3 (by decide) w7 (HW.out.below HG7.out.1).vb).mono ?_
  rintro e8 w8 ⟨rfl, hw8⟩
  subst hw8
  have hvs : (vb 3).toList = [112, 111, 108, 108] := by kernel_rfl
  have hvt : (vb ((3 : Int).toNat)).toList = (vb 3).toList := rfl
  rw [show vb ((3 : Int).toNat) = (⟨#[112, 111, 108, 108]⟩ : ByteArray) from rfl]
  clear hvs hvt
  go_wp2_with fail
  go_ret
  exact ⟨by first | rfl | (simp; done), HG7.out.1⟩
set_option maxRecDepth 100000 in
set_option maxHeartbeats 8000000 in
theorem way_3_1 (c1 c2 c3 c4 c5 c6 c7 c8 : Int) (w : World) (hw : Wd w) (ht0 : Tb w) (p : Int) (h : pt [(3 : Int), c1, c2, c3, c4, c5, c6, c7, c8] = .er 1 p) : Calls Tryd.prog 4 #[.agg (List.toArray [.int .i64 3, .int .i64 c1, .int .i64 c2, .int .i64 c3, .int .i64 c4, .int .i64 c5, .int .i64 c6, .int .i64 c7, .int .i64 c8])] w fun e w' => e = .returned (.bool true) ∧ Below w.heap.size w w' := by
  have HA := Lib.hid (fun W hW => awake_is W hW)
  have HW := Lib.hid hw
  have HT := Lib.hid ht0
  have HTO := Lib.hid (fun W => to_is 3 c1 c2 c3 c4 c5 c6 c7 c8 W)
  have HPP := Lib.hid (fun W hv ht => pp_er 3 c1 c2 c3 c4 c5 c6 c7 c8 1 p (by decide) h W hv ht)
  have HRP := Lib.hid (fun W => rp_er 3 c1 c2 c3 c4 c5 c6 c7 c8 1 p (by decide) h W)
  have gA : Below w.heap.size w (w.alloc (.cells (List.toArray [.int .i64 3, .int .i64 c1, .int .i64 c2, .int .i64 c3, .int .i64 c4, .int .i64 c5, .int .i64 c6, .int .i64 c7, .int .i64 c8]) 31)) := by go_grown
  have bA := Bl.new w [.int .i64 3, .int .i64 c1, .int .i64 c2, .int .i64 c3, .int .i64 c4, .int .i64 c5, .int .i64 c6, .int .i64 c7, .int .i64 c8] 31
  have HG := Lib.hid (And.intro gA bA)
  clear h gA bA hw ht0
  go_enter Tryd.func4, Tryd.ntmps4
  go_wp2_with fail
  refine (HTO.out _).mono ?_
  rintro e1 w1 ⟨rfl, hb1⟩
  have HG1 := Lib.hid (And.intro (Below.step HG.out.1 hb1) (HG.out.2.below hb1))
  clear hb1 HTO
  go_wp2_with fail
  refine (HPP.out _ (HW.out.below HG1.out.1).vb (HT.out.below HG1.out.1)).mono ?_
  rintro e2 w2 ⟨v2, rfl, hch, hb2⟩
  have HG2 := Lib.hid (And.intro (Below.step HG1.out.1 hb2) (HG1.out.2.below hb2))
  have HCH := Lib.hid hch
  clear hch
  have bb := HG2.out.2
  have x0 := bb.cell 0 _ rfl
  have x1 := bb.cell 1 _ rfl
  have x2 := bb.cell 2 _ rfl
  have x3 := bb.cell 3 _ rfl
  have x4 := bb.cell 4 _ rfl
  have x5 := bb.cell 5 _ rfl
  have x6 := bb.cell 6 _ rfl
  have x7 := bb.cell 7 _ rfl
  have x8 := bb.cell 8 _ rfl
  clear hb2 HPP bb
  go_wp2_with fail
  refine (HRP.out _).mono ?_
  rintro e3 w3 ⟨rfl, hb3⟩
  have HG3 := Lib.hid (And.intro (Below.step HG2.out.1 hb3) (HG2.out.2.below hb3))
  have HCH3 := Lib.hid (HCH.out.below hb3)
  clear hb3 HRP x0 x1 x2 x3 x4 x5 x6 x7 x8
  go_wp2_with fail
  refine (num_ch [.pl p] 1 (by decide) (by decide) v2 w3 HCH3.out).mono ?_
  rintro e4 w4 ⟨rfl, hb4⟩
  have HG4 := Lib.hid (And.intro (Below.step HG3.out.1 hb4) (HG3.out.2.below hb4))
  have HCH4 := Lib.hid (HCH3.out.below hb4)
  clear hb4
  go_wp2_with fail
  refine (place_some p [.pl p] 1 v2 w4 HCH4.out (HW.out.below HG4.out.1).hg (HW.out.below HG4.out.1).hgl rfl).mono ?_
  rintro e5 w5 ⟨rfl, hb5⟩
  have HG5 := Lib.hid (And.intro (Below.step HG4.out.1 hb5) (HG4.out.2.below hb5))
  have y0 := HG5.out.2.cell 0 _ rfl
  clear hb5
  have lA := HG5.out.2.lt
  go_wp2_with fail
  have gS : Below w5.heap.size w5 (w5.alloc (.cells (List.toArray [.string ⟨#[115, 117, 98, 109, 105, 116]⟩, .string ⟨#[99, 97, 110, 99, 101, 108]⟩, .string ⟨#[112, 111, 108, 108]⟩, .string ⟨#[118, 105, 101, 119]⟩]) 9)) := by go_grown
  have HG6 := Lib.hid (And.intro (Below.step HG5.out.1 gS) (HG5.out.2.below gS))
  clear gS
  refine (HA.out _ (HW.out.below HG6.out.1)).mono ?_
  rintro e7 w7 ⟨rfl, hb7⟩
  have HG7 := Lib.hid (And.intro (Below.step HG6.out.1 hb7) (HG6.out.2.below hb7))
  have z0 := HG7.out.2.cell 0 _ rfl
  clear hb7 y0 lA
  go_wp2_with fail
  refine (verb_is 3 (by decide) w7 (HW.out.below HG7.out.1).vb).mono ?_
  rintro e8 w8 ⟨rfl, hw8⟩
  subst hw8
  have hvs : (vb 3).toList = [112, 111, 108, 108] := by kernel_rfl
  have hvt : (vb ((3 : Int).toNat)).toList = (vb 3).toList := rfl
  rw [show vb ((3 : Int).toNat) = (⟨#[112, 111, 108, 108]⟩ : ByteArray) from rfl]
  clear hvs hvt
  go_wp2_with fail
  go_ret
  exact ⟨by first | rfl | (simp; done), HG7.out.1⟩
set_option maxRecDepth 100000 in
set_option maxHeartbeats 8000000 in
theorem way_3_ok (c1 c2 c3 c4 c5 c6 c7 c8 : Int) (w : World) (hw : Wd w) (ht0 : Tb w) (l : List UInt8) (h : pt [(3 : Int), c1, c2, c3, c4, c5, c6, c7, c8] = .ok l) : Calls Tryd.prog 4 #[.agg (List.toArray [.int .i64 3, .int .i64 c1, .int .i64 c2, .int .i64 c3, .int .i64 c4, .int .i64 c5, .int .i64 c6, .int .i64 c7, .int .i64 c8])] w fun e w' => e = .returned (.bool true) ∧ Below w.heap.size w w' := by
  have HA := Lib.hid (fun W hW => awake_is W hW)
  have HW := Lib.hid hw
  have HT := Lib.hid ht0
  have HTO := Lib.hid (fun W => to_is 3 c1 c2 c3 c4 c5 c6 c7 c8 W)
  have HPP := Lib.hid (fun W hv ht => pp_ok 3 c1 c2 c3 c4 c5 c6 c7 c8 l h W hv ht)
  have HRP := Lib.hid (fun W => rp_ok 3 c1 c2 c3 c4 c5 c6 c7 c8 l h W)
  have gA : Below w.heap.size w (w.alloc (.cells (List.toArray [.int .i64 3, .int .i64 c1, .int .i64 c2, .int .i64 c3, .int .i64 c4, .int .i64 c5, .int .i64 c6, .int .i64 c7, .int .i64 c8]) 31)) := by go_grown
  have bA := Bl.new w [.int .i64 3, .int .i64 c1, .int .i64 c2, .int .i64 c3, .int .i64 c4, .int .i64 c5, .int .i64 c6, .int .i64 c7, .int .i64 c8] 31
  have HG := Lib.hid (And.intro gA bA)
  clear h gA bA hw ht0
  go_enter Tryd.func4, Tryd.ntmps4
  go_wp2_with fail
  refine (HTO.out _).mono ?_
  rintro e1 w1 ⟨rfl, hb1⟩
  have HG1 := Lib.hid (And.intro (Below.step HG.out.1 hb1) (HG.out.2.below hb1))
  clear hb1 HTO
  go_wp2_with fail
  refine (HPP.out _ (HW.out.below HG1.out.1).vb (HT.out.below HG1.out.1)).mono ?_
  rintro e2 w2 ⟨rfl, hb2⟩
  have HG2 := Lib.hid (And.intro (Below.step HG1.out.1 hb2) (HG1.out.2.below hb2))
  have bb := HG2.out.2
  have x0 := bb.cell 0 _ rfl
  have x1 := bb.cell 1 _ rfl
  have x2 := bb.cell 2 _ rfl
  have x3 := bb.cell 3 _ rfl
  have x4 := bb.cell 4 _ rfl
  have x5 := bb.cell 5 _ rfl
  have x6 := bb.cell 6 _ rfl
  have x7 := bb.cell 7 _ rfl
  have x8 := bb.cell 8 _ rfl
  clear hb2 HPP bb
  go_wp2_with fail
  refine (HRP.out _).mono ?_
  rintro e3 w3 ⟨rfl, hb3⟩
  have HG3 := Lib.hid (And.intro (Below.step HG2.out.1 hb3) (HG2.out.2.below hb3))
  clear hb3 HRP x0 x1 x2 x3 x4 x5 x6 x7 x8
  go_wp2_with fail
  refine (num_nil w3).mono ?_
  rintro e4 w4 ⟨rfl, hw4⟩
  have HG4 : Hid (Below w.heap.size w w4 ∧ Bl w.heap.size [.int .i64 3, .int .i64 c1, .int .i64 c2, .int .i64 c3, .int .i64 c4, .int .i64 c5, .int .i64 c6, .int .i64 c7, .int .i64 c8] w4) := by rw [← hw4]; exact HG3
  have y0 := HG4.out.2.cell 0 _ rfl
  clear hw4
  have lA := HG4.out.2.lt
  go_wp2_with fail
  have gS : Below w4.heap.size w4 (w4.alloc (.cells (List.toArray [.string ⟨#[115, 117, 98, 109, 105, 116]⟩, .string ⟨#[99, 97, 110, 99, 101, 108]⟩, .string ⟨#[112, 111, 108, 108]⟩, .string ⟨#[118, 105, 101, 119]⟩]) 9)) := by go_grown
  have HG6 := Lib.hid (And.intro (Below.step HG4.out.1 gS) (HG4.out.2.below gS))
  clear gS
  refine (HA.out _ (HW.out.below HG6.out.1)).mono ?_
  rintro e7 w7 ⟨rfl, hb7⟩
  have HG7 := Lib.hid (And.intro (Below.step HG6.out.1 hb7) (HG6.out.2.below hb7))
  have z0 := HG7.out.2.cell 0 _ rfl
  clear hb7 y0 lA
  go_wp2_with fail
  refine (verb_is 3 (by decide) w7 (HW.out.below HG7.out.1).vb).mono ?_
  rintro e8 w8 ⟨rfl, hw8⟩
  subst hw8
  have hvs : (vb 3).toList = [112, 111, 108, 108] := by kernel_rfl
  have hvt : (vb ((3 : Int).toNat)).toList = (vb 3).toList := rfl
  rw [show vb ((3 : Int).toNat) = (⟨#[112, 111, 108, 108]⟩ : ByteArray) from rfl]
  clear hvs hvt
  go_wp2_with fail
  go_ret
  exact ⟨by first | rfl | (simp; done), HG7.out.1⟩
set_option maxRecDepth 100000 in
set_option maxHeartbeats 8000000 in
theorem way_4_5 (c1 c2 c3 c4 c5 c6 c7 c8 : Int) (w : World) (hw : Wd w) (ht0 : Tb w) (p : Int) (h : pt [(4 : Int), c1, c2, c3, c4, c5, c6, c7, c8] = .er 5 p) : Calls Tryd.prog 4 #[.agg (List.toArray [.int .i64 4, .int .i64 c1, .int .i64 c2, .int .i64 c3, .int .i64 c4, .int .i64 c5, .int .i64 c6, .int .i64 c7, .int .i64 c8])] w fun e w' => e = .returned (.bool true) ∧ Below w.heap.size w w' := by
  have HA := Lib.hid (fun W hW => awake_is W hW)
  have HW := Lib.hid hw
  have HT := Lib.hid ht0
  have HTO := Lib.hid (fun W => to_is 4 c1 c2 c3 c4 c5 c6 c7 c8 W)
  have HPP := Lib.hid (fun W hv ht => pp_er 4 c1 c2 c3 c4 c5 c6 c7 c8 5 p (by decide) h W hv ht)
  have HRP := Lib.hid (fun W => rp_er 4 c1 c2 c3 c4 c5 c6 c7 c8 5 p (by decide) h W)
  have gA : Below w.heap.size w (w.alloc (.cells (List.toArray [.int .i64 4, .int .i64 c1, .int .i64 c2, .int .i64 c3, .int .i64 c4, .int .i64 c5, .int .i64 c6, .int .i64 c7, .int .i64 c8]) 31)) := by go_grown
  have bA := Bl.new w [.int .i64 4, .int .i64 c1, .int .i64 c2, .int .i64 c3, .int .i64 c4, .int .i64 c5, .int .i64 c6, .int .i64 c7, .int .i64 c8] 31
  have HG := Lib.hid (And.intro gA bA)
  clear h gA bA hw ht0
  go_enter Tryd.func4, Tryd.ntmps4
  go_wp2_with fail
  refine (HTO.out _).mono ?_
  rintro e1 w1 ⟨rfl, hb1⟩
  have HG1 := Lib.hid (And.intro (Below.step HG.out.1 hb1) (HG.out.2.below hb1))
  clear hb1 HTO
  go_wp2_with fail
  refine (HPP.out _ (HW.out.below HG1.out.1).vb (HT.out.below HG1.out.1)).mono ?_
  rintro e2 w2 ⟨v2, rfl, hch, hb2⟩
  have HG2 := Lib.hid (And.intro (Below.step HG1.out.1 hb2) (HG1.out.2.below hb2))
  have HCH := Lib.hid hch
  clear hch
  have bb := HG2.out.2
  have x0 := bb.cell 0 _ rfl
  have x1 := bb.cell 1 _ rfl
  have x2 := bb.cell 2 _ rfl
  have x3 := bb.cell 3 _ rfl
  have x4 := bb.cell 4 _ rfl
  have x5 := bb.cell 5 _ rfl
  have x6 := bb.cell 6 _ rfl
  have x7 := bb.cell 7 _ rfl
  have x8 := bb.cell 8 _ rfl
  clear hb2 HPP bb
  go_wp2_with fail
  refine (HRP.out _).mono ?_
  rintro e3 w3 ⟨rfl, hb3⟩
  have HG3 := Lib.hid (And.intro (Below.step HG2.out.1 hb3) (HG2.out.2.below hb3))
  have HCH3 := Lib.hid (HCH.out.below hb3)
  clear hb3 HRP x0 x1 x2 x3 x4 x5 x6 x7 x8
  go_wp2_with fail
  refine (num_ch [.pl p] 5 (by decide) (by decide) v2 w3 HCH3.out).mono ?_
  rintro e4 w4 ⟨rfl, hb4⟩
  have HG4 := Lib.hid (And.intro (Below.step HG3.out.1 hb4) (HG3.out.2.below hb4))
  have HCH4 := Lib.hid (HCH3.out.below hb4)
  clear hb4
  go_wp2_with fail
  refine (place_some p [.pl p] 5 v2 w4 HCH4.out (HW.out.below HG4.out.1).hg (HW.out.below HG4.out.1).hgl rfl).mono ?_
  rintro e5 w5 ⟨rfl, hb5⟩
  have HG5 := Lib.hid (And.intro (Below.step HG4.out.1 hb5) (HG4.out.2.below hb5))
  have y0 := HG5.out.2.cell 0 _ rfl
  clear hb5
  have lA := HG5.out.2.lt
  go_wp2_with fail
  have gS : Below w5.heap.size w5 (w5.alloc (.cells (List.toArray [.string ⟨#[115, 117, 98, 109, 105, 116]⟩, .string ⟨#[99, 97, 110, 99, 101, 108]⟩, .string ⟨#[112, 111, 108, 108]⟩, .string ⟨#[118, 105, 101, 119]⟩]) 9)) := by go_grown
  have HG6 := Lib.hid (And.intro (Below.step HG5.out.1 gS) (HG5.out.2.below gS))
  clear gS
  refine (HA.out _ (HW.out.below HG6.out.1)).mono ?_
  rintro e7 w7 ⟨rfl, hb7⟩
  have HG7 := Lib.hid (And.intro (Below.step HG6.out.1 hb7) (HG6.out.2.below hb7))
  have z0 := HG7.out.2.cell 0 _ rfl
  clear hb7 y0 lA
  go_wp2_with fail
  refine (verb_is 4 (by decide) w7 (HW.out.below HG7.out.1).vb).mono ?_
  rintro e8 w8 ⟨rfl, hw8⟩
  subst hw8
  have hvs : (vb 4).toList = [118, 105, 101, 119] := by kernel_rfl
  have hvt : (vb ((4 : Int).toNat)).toList = (vb 4).toList := rfl
  rw [show vb ((4 : Int).toNat) = (⟨#[118, 105, 101, 119]⟩ : ByteArray) from rfl]
  clear hvs hvt
  go_wp2_with fail
  go_ret
  exact ⟨by first | rfl | (simp; done), HG7.out.1⟩
set_option maxRecDepth 100000 in
set_option maxHeartbeats 8000000 in
theorem way_4_1 (c1 c2 c3 c4 c5 c6 c7 c8 : Int) (w : World) (hw : Wd w) (ht0 : Tb w) (p : Int) (h : pt [(4 : Int), c1, c2, c3, c4, c5, c6, c7, c8] = .er 1 p) : Calls Tryd.prog 4 #[.agg (List.toArray [.int .i64 4, .int .i64 c1, .int .i64 c2, .int .i64 c3, .int .i64 c4, .int .i64 c5, .int .i64 c6, .int .i64 c7, .int .i64 c8])] w fun e w' => e = .returned (.bool true) ∧ Below w.heap.size w w' := by
  have HA := Lib.hid (fun W hW => awake_is W hW)
  have HW := Lib.hid hw
  have HT := Lib.hid ht0
  have HTO := Lib.hid (fun W => to_is 4 c1 c2 c3 c4 c5 c6 c7 c8 W)
  have HPP := Lib.hid (fun W hv ht => pp_er 4 c1 c2 c3 c4 c5 c6 c7 c8 1 p (by decide) h W hv ht)
  have HRP := Lib.hid (fun W => rp_er 4 c1 c2 c3 c4 c5 c6 c7 c8 1 p (by decide) h W)
  have gA : Below w.heap.size w (w.alloc (.cells (List.toArray [.int .i64 4, .int .i64 c1, .int .i64 c2, .int .i64 c3, .int .i64 c4, .int .i64 c5, .int .i64 c6, .int .i64 c7, .int .i64 c8]) 31)) := by go_grown
  have bA := Bl.new w [.int .i64 4, .int .i64 c1, .int .i64 c2, .int .i64 c3, .int .i64 c4, .int .i64 c5, .int .i64 c6, .int .i64 c7, .int .i64 c8] 31
  have HG := Lib.hid (And.intro gA bA)
  clear h gA bA hw ht0
  go_enter Tryd.func4, Tryd.ntmps4
  go_wp2_with fail
  refine (HTO.out _).mono ?_
  rintro e1 w1 ⟨rfl, hb1⟩
  have HG1 := Lib.hid (And.intro (Below.step HG.out.1 hb1) (HG.out.2.below hb1))
  clear hb1 HTO
  go_wp2_with fail
  refine (HPP.out _ (HW.out.below HG1.out.1).vb (HT.out.below HG1.out.1)).mono ?_
  rintro e2 w2 ⟨v2, rfl, hch, hb2⟩
  have HG2 := Lib.hid (And.intro (Below.step HG1.out.1 hb2) (HG1.out.2.below hb2))
  have HCH := Lib.hid hch
  clear hch
  have bb := HG2.out.2
  have x0 := bb.cell 0 _ rfl
  have x1 := bb.cell 1 _ rfl
  have x2 := bb.cell 2 _ rfl
  have x3 := bb.cell 3 _ rfl
  have x4 := bb.cell 4 _ rfl
  have x5 := bb.cell 5 _ rfl
  have x6 := bb.cell 6 _ rfl
  have x7 := bb.cell 7 _ rfl
  have x8 := bb.cell 8 _ rfl
  clear hb2 HPP bb
  go_wp2_with fail
  refine (HRP.out _).mono ?_
  rintro e3 w3 ⟨rfl, hb3⟩
  have HG3 := Lib.hid (And.intro (Below.step HG2.out.1 hb3) (HG2.out.2.below hb3))
  have HCH3 := Lib.hid (HCH.out.below hb3)
  clear hb3 HRP x0 x1 x2 x3 x4 x5 x6 x7 x8
  go_wp2_with fail
  refine (num_ch [.pl p] 1 (by decide) (by decide) v2 w3 HCH3.out).mono ?_
  rintro e4 w4 ⟨rfl, hb4⟩
  have HG4 := Lib.hid (And.intro (Below.step HG3.out.1 hb4) (HG3.out.2.below hb4))
  have HCH4 := Lib.hid (HCH3.out.below hb4)
  clear hb4
  go_wp2_with fail
  refine (place_some p [.pl p] 1 v2 w4 HCH4.out (HW.out.below HG4.out.1).hg (HW.out.below HG4.out.1).hgl rfl).mono ?_
  rintro e5 w5 ⟨rfl, hb5⟩
  have HG5 := Lib.hid (And.intro (Below.step HG4.out.1 hb5) (HG4.out.2.below hb5))
  have y0 := HG5.out.2.cell 0 _ rfl
  clear hb5
  have lA := HG5.out.2.lt
  go_wp2_with fail
  have gS : Below w5.heap.size w5 (w5.alloc (.cells (List.toArray [.string ⟨#[115, 117, 98, 109, 105, 116]⟩, .string ⟨#[99, 97, 110, 99, 101, 108]⟩, .string ⟨#[112, 111, 108, 108]⟩, .string ⟨#[118, 105, 101, 119]⟩]) 9)) := by go_grown
  have HG6 := Lib.hid (And.intro (Below.step HG5.out.1 gS) (HG5.out.2.below gS))
  clear gS
  refine (HA.out _ (HW.out.below HG6.out.1)).mono ?_
  rintro e7 w7 ⟨rfl, hb7⟩
  have HG7 := Lib.hid (And.intro (Below.step HG6.out.1 hb7) (HG6.out.2.below hb7))
  have z0 := HG7.out.2.cell 0 _ rfl
  clear hb7 y0 lA
  go_wp2_with fail
  refine (verb_is 4 (by decide) w7 (HW.out.below HG7.out.1).vb).mono ?_
  rintro e8 w8 ⟨rfl, hw8⟩
  subst hw8
  have hvs : (vb 4).toList = [118, 105, 101, 119] := by kernel_rfl
  have hvt : (vb ((4 : Int).toNat)).toList = (vb 4).toList := rfl
  rw [show vb ((4 : Int).toNat) = (⟨#[118, 105, 101, 119]⟩ : ByteArray) from rfl]
  clear hvs hvt
  go_wp2_with fail
  go_ret
  exact ⟨by first | rfl | (simp; done), HG7.out.1⟩
set_option maxRecDepth 100000 in
set_option maxHeartbeats 8000000 in
theorem way_4_ok (c1 c2 c3 c4 c5 c6 c7 c8 : Int) (w : World) (hw : Wd w) (ht0 : Tb w) (l : List UInt8) (h : pt [(4 : Int), c1, c2, c3, c4, c5, c6, c7, c8] = .ok l) : Calls Tryd.prog 4 #[.agg (List.toArray [.int .i64 4, .int .i64 c1, .int .i64 c2, .int .i64 c3, .int .i64 c4, .int .i64 c5, .int .i64 c6, .int .i64 c7, .int .i64 c8])] w fun e w' => e = .returned (.bool true) ∧ Below w.heap.size w w' := by
  have HA := Lib.hid (fun W hW => awake_is W hW)
  have HW := Lib.hid hw
  have HT := Lib.hid ht0
  have HTO := Lib.hid (fun W => to_is 4 c1 c2 c3 c4 c5 c6 c7 c8 W)
  have HPP := Lib.hid (fun W hv ht => pp_ok 4 c1 c2 c3 c4 c5 c6 c7 c8 l h W hv ht)
  have HRP := Lib.hid (fun W => rp_ok 4 c1 c2 c3 c4 c5 c6 c7 c8 l h W)
  have gA : Below w.heap.size w (w.alloc (.cells (List.toArray [.int .i64 4, .int .i64 c1, .int .i64 c2, .int .i64 c3, .int .i64 c4, .int .i64 c5, .int .i64 c6, .int .i64 c7, .int .i64 c8]) 31)) := by go_grown
  have bA := Bl.new w [.int .i64 4, .int .i64 c1, .int .i64 c2, .int .i64 c3, .int .i64 c4, .int .i64 c5, .int .i64 c6, .int .i64 c7, .int .i64 c8] 31
  have HG := Lib.hid (And.intro gA bA)
  clear h gA bA hw ht0
  go_enter Tryd.func4, Tryd.ntmps4
  go_wp2_with fail
  refine (HTO.out _).mono ?_
  rintro e1 w1 ⟨rfl, hb1⟩
  have HG1 := Lib.hid (And.intro (Below.step HG.out.1 hb1) (HG.out.2.below hb1))
  clear hb1 HTO
  go_wp2_with fail
  refine (HPP.out _ (HW.out.below HG1.out.1).vb (HT.out.below HG1.out.1)).mono ?_
  rintro e2 w2 ⟨rfl, hb2⟩
  have HG2 := Lib.hid (And.intro (Below.step HG1.out.1 hb2) (HG1.out.2.below hb2))
  have bb := HG2.out.2
  have x0 := bb.cell 0 _ rfl
  have x1 := bb.cell 1 _ rfl
  have x2 := bb.cell 2 _ rfl
  have x3 := bb.cell 3 _ rfl
  have x4 := bb.cell 4 _ rfl
  have x5 := bb.cell 5 _ rfl
  have x6 := bb.cell 6 _ rfl
  have x7 := bb.cell 7 _ rfl
  have x8 := bb.cell 8 _ rfl
  clear hb2 HPP bb
  go_wp2_with fail
  refine (HRP.out _).mono ?_
  rintro e3 w3 ⟨rfl, hb3⟩
  have HG3 := Lib.hid (And.intro (Below.step HG2.out.1 hb3) (HG2.out.2.below hb3))
  clear hb3 HRP x0 x1 x2 x3 x4 x5 x6 x7 x8
  go_wp2_with fail
  refine (num_nil w3).mono ?_
  rintro e4 w4 ⟨rfl, hw4⟩
  have HG4 : Hid (Below w.heap.size w w4 ∧ Bl w.heap.size [.int .i64 4, .int .i64 c1, .int .i64 c2, .int .i64 c3, .int .i64 c4, .int .i64 c5, .int .i64 c6, .int .i64 c7, .int .i64 c8] w4) := by rw [← hw4]; exact HG3
  have y0 := HG4.out.2.cell 0 _ rfl
  clear hw4
  have lA := HG4.out.2.lt
  go_wp2_with fail
  have gS : Below w4.heap.size w4 (w4.alloc (.cells (List.toArray [.string ⟨#[115, 117, 98, 109, 105, 116]⟩, .string ⟨#[99, 97, 110, 99, 101, 108]⟩, .string ⟨#[112, 111, 108, 108]⟩, .string ⟨#[118, 105, 101, 119]⟩]) 9)) := by go_grown
  have HG6 := Lib.hid (And.intro (Below.step HG4.out.1 gS) (HG4.out.2.below gS))
  clear gS
  refine (HA.out _ (HW.out.below HG6.out.1)).mono ?_
  rintro e7 w7 ⟨rfl, hb7⟩
  have HG7 := Lib.hid (And.intro (Below.step HG6.out.1 hb7) (HG6.out.2.below hb7))
  have z0 := HG7.out.2.cell 0 _ rfl
  clear hb7 y0 lA
  go_wp2_with fail
  refine (verb_is 4 (by decide) w7 (HW.out.below HG7.out.1).vb).mono ?_
  rintro e8 w8 ⟨rfl, hw8⟩
  subst hw8
  have hvs : (vb 4).toList = [118, 105, 101, 119] := by kernel_rfl
  have hvt : (vb ((4 : Int).toNat)).toList = (vb 4).toList := rfl
  rw [show vb ((4 : Int).toNat) = (⟨#[118, 105, 101, 119]⟩ : ByteArray) from rfl]
  clear hvs hvt
  go_wp2_with fail
  go_ret
  exact ⟨by first | rfl | (simp; done), HG7.out.1⟩
theorem walk (c0 c1 c2 c3 c4 c5 c6 c7 c8 : Int) (w : World) (hw : Wd w) (ht : Tb w) : Calls Tryd.prog 4 #[.agg (List.toArray [.int .i64 c0, .int .i64 c1, .int .i64 c2, .int .i64 c3, .int .i64 c4, .int .i64 c5, .int .i64 c6, .int .i64 c7, .int .i64 c8])] w fun e w' => e = .returned (.bool true) ∧ Below w.heap.size w w' := by
  rcases h : pt [c0, c1, c2, c3, c4, c5, c6, c7, c8] with ⟨x, p⟩ | l
  · rcases pt_code h with ⟨rfl, rfl, hk⟩ | ⟨hx, hk1, hk2⟩
    · have hk' : c0 < 1 ∨ 4 < c0 := hk
      rcases hk' with hk' | hk'
      · exact way_lo c0 c1 c2 c3 c4 c5 c6 c7 c8 w hw ht hk' h
      · exact way_hi c0 c1 c2 c3 c4 c5 c6 c7 c8 w hw ht hk' h
    · have k1 : 1 ≤ c0 := hk1
      have k2 : c0 ≤ 4 := hk2
      rcases (show c0 = 1 ∨ c0 = 2 ∨ c0 = 3 ∨ c0 = 4 by omega) with rfl | rfl | rfl | rfl <;> rcases hx with rfl | rfl
      · exact way_1_5 c1 c2 c3 c4 c5 c6 c7 c8 w hw ht p h
      · exact way_1_1 c1 c2 c3 c4 c5 c6 c7 c8 w hw ht p h
      · exact way_2_5 c1 c2 c3 c4 c5 c6 c7 c8 w hw ht p h
      · exact way_2_1 c1 c2 c3 c4 c5 c6 c7 c8 w hw ht p h
      · exact way_3_5 c1 c2 c3 c4 c5 c6 c7 c8 w hw ht p h
      · exact way_3_1 c1 c2 c3 c4 c5 c6 c7 c8 w hw ht p h
      · exact way_4_5 c1 c2 c3 c4 c5 c6 c7 c8 w hw ht p h
      · exact way_4_1 c1 c2 c3 c4 c5 c6 c7 c8 w hw ht p h
  · have hk := pt_ok h
    have k1 : 1 ≤ c0 := hk.1
    have k2 : c0 ≤ 4 := hk.2
    rcases (show c0 = 1 ∨ c0 = 2 ∨ c0 = 3 ∨ c0 = 4 by omega) with rfl | rfl | rfl | rfl
    · exact way_1_ok c1 c2 c3 c4 c5 c6 c7 c8 w hw ht l h
    · exact way_2_ok c1 c2 c3 c4 c5 c6 c7 c8 w hw ht l h
    · exact way_3_ok c1 c2 c3 c4 c5 c6 c7 c8 w hw ht l h
    · exact way_4_ok c1 c2 c3 c4 c5 c6 c7 c8 w hw ht l h

end Go.Proofs.YtnppopeoloigeaaDoor

/-
  A right reply's line is parsed as it was.
-/
import Derived.Test.YtinciphhoieonaaGreatDoorRows
import Derived.Test.YtinciphhoieonaaGreatDoorKit
import Derived.Test.YtinciphhoieonaaGreatDoorApp
import Derived.Test.YtinciphhoieonaaGreatDoorQuiet
import Derived.WalkKit
import Derived.ProofKit
import Derived.OpenShut
import Derived.ShutString
import Derived.Below
import Derived.Outline
import Derived.WalkLawsBesides
import Derived.WalkSpells
import Derived.Handy
import Derived.Deep.QuietTactic
import Derived.BigQuiet
import Derived.RegionTactic
import Derived.ChangeAlike
import Derived.Lib.Hide
import Derived.Laws.Rows
import Derived.Laws.Tables
import Derived.Laws.CopyOwn
import Derived.Laws.MakeOwn
import Derived.Laws.Entries
import Derived.Laws.OwnMore
import Derived.Deep.WholeRow
import Derived.Deep.LoopGhost
import Derived.Deep.AppendLies
import Derived.Deep.Draws
import Derived.Maps.AppendAt
import Derived.OwnWalk
import Derived.Deep.RegionHeld3
import Derived.Deep.Cut
import Derived.Deep.CutRange
import Derived.Deep.DeepCutAuto
import Derived.Deep.CutBlock
import Derived.Lib.SliceRun
import Derived.IntWalk
import Derived.Laws.Strings
import Derived.Lib.Bytealg
import Derived.Lib.Strings
import Derived.Laws.Externs
import Derived.Test.YtinciphhoieonaaGreatDoorAnI
namespace Go.Proofs.YtinciphhoieonaaGreatDoor
open Go.ChangeShapes Go.WideShapes Go.ChangeAt Go.RowKit
set_option maxRecDepth 100000 in
set_option maxHeartbeats 8000000 in
theorem parse_is (k cd t i c : Int) (ask : Bool) (r0 r1 r2 r3 r4 r5 : Int) (L : List Lk) (h : Rt ⟨k, cd, t, i, c, ask, r0, r1, r2, r3, r4, r5, L⟩) (hcd : cd ≤ 9999999) (hl : L.length ≤ 1000) (w : World) (hv : Vb w) (ht : Tb w) (hm : Ml w) : Calls Tryz.prog 12 #[.string (Bs (jl (aw ⟨k, cd, t, i, c, ask, r0, r1, r2, r3, r4, r5, L⟩)))] w fun e w' => ∃ A cap, e = .returned (.tuple #[.agg (List.toArray [.int .i64 k, .int .i64 cd, .int .i64 t, .int .i64 i, .int .i64 c, .bool ask, .int .i64 r0, .int .i64 r1, .int .i64 r2, .int .i64 r3, .int .i64 r4, .int .i64 r5, .slice A L.length cap]), .nilIface]) ∧ LkAt A L w' ∧ Below w.heap.size w w' := by
  have gO : Below w.heap.size w (w.alloc (.cells (List.toArray [.int .i64 0, .int .i64 0, .int .i64 0, .int .i64 0, .int .i64 0, .bool false, .int .i64 0, .int .i64 0, .int .i64 0, .int .i64 0, .int .i64 0, .int .i64 0, .slice none 0 0]) 27)) := by go_grown
  have bO := Bl.new w [.int .i64 0, .int .i64 0, .int .i64 0, .int .i64 0, .int .i64 0, .bool false, .int .i64 0, .int .i64 0, .int .i64 0, .int .i64 0, .int .i64 0, .int .i64 0, .slice none 0 0] 27
  have hR := read_is k cd t i c ask r0 r1 r2 r3 r4 r5 L h hcd hl (w.alloc (.cells (List.toArray [.int .i64 0, .int .i64 0, .int .i64 0, .int .i64 0, .int .i64 0, .bool false, .int .i64 0, .int .i64 0, .int .i64 0, .int .i64 0, .int .i64 0, .int .i64 0, .slice none 0 0]) 27)) (hv.below gO) (hm.below gO)
  have hv1 := hv.below gO
  have ht1 := ht.below gO
  rw [World.size_alloc] at hR
  obtain ⟨LN, hLN⟩ : ∃ LN, LN = jl (aw ⟨k, cd, t, i, c, ask, r0, r1, r2, r3, r4, r5, L⟩) := ⟨_, rfl⟩
  rw [← hLN] at hR ⊢
  obtain ⟨W, hW⟩ : ∃ W, W = w.alloc (.cells (List.toArray [.int .i64 0, .int .i64 0, .int .i64 0, .int .i64 0, .int .i64 0, .bool false, .int .i64 0, .int .i64 0, .int .i64 0, .int .i64 0, .int .i64 0, .int .i64 0, .slice none 0 0]) 27) := ⟨_, rfl⟩
  obtain ⟨OB, hOB⟩ : ∃ OB, OB = w.heap.size := ⟨_, rfl⟩
  have hWs : W.heap.size = OB + 1 := by rw [hW, hOB, World.size_alloc]
  rw [← hW] at hR gO bO hv1 ht1
  rw [← hOB] at bO
  have HR := Lib.hid hR
  have HWS := Lib.hid hWs
  have HWE := Lib.hid hW
  have HOE := Lib.hid hOB
  have HG := Lib.hid gO
  have HO := Lib.hid bO
  have HV := Lib.hid hv1
  have HT := Lib.hid ht1
  have HRT := Lib.hid h
  have HCD := Lib.hid hcd
  have HLL := Lib.hid hl
  have HLN := Lib.hid hLN
  clear gO bO hR hv1 ht1 hLN hW hOB hWs hv ht hm h hcd hl
  go_enter Tryz.func12, Tryz.ntmps12
  go_upto_region 1 with fail
  rw [← HWE.out, ← HOE.out]
  go_wp2_with fail
  refine HR.out.mono ?_
  rintro e1 w1 ⟨A, cap, rfl, hl1, hf1, hb1⟩
  replace hb1 : Below W.heap.size W w1 := by rw [HWS.out, HOE.out]; exact hb1
  have g4 : Below w1.heap.size w1 (w1.alloc (.cells (List.toArray [.int .i64 k, .int .i64 cd, .int .i64 t, .int .i64 i, .int .i64 c, .bool ask, .int .i64 r0, .int .i64 r1, .int .i64 r2, .int .i64 r3, .int .i64 r4, .int .i64 r5, .slice A L.length cap]) 27)) := by go_grown
  have b4 := Bl.new w1 [.int .i64 k, .int .i64 cd, .int .i64 t, .int .i64 i, .int .i64 c, .bool ask, .int .i64 r0, .int .i64 r1, .int .i64 r2, .int .i64 r3, .int .i64 r4, .int .i64 r5, .slice A L.length cap] 27
  have HF1 := Lib.hid (And.intro hl1 (And.intro hf1 hb1))
  have HB4 := Lib.hid (And.intro (HO.out.below (Below.step hb1 g4)) (And.intro (Below.step HG.out (Below.step hb1 g4)) (hl1.below g4)))
  have HP := Lib.hid (print_is k cd t i c ask r0 r1 r2 r3 r4 r5 L A cap HRT.out (by have := HCD.out; omega) (w1.alloc (.cells (List.toArray [.int .i64 k, .int .i64 cd, .int .i64 t, .int .i64 i, .int .i64 c, .bool ask, .int .i64 r0, .int .i64 r1, .int .i64 r2, .int .i64 r3, .int .i64 r4, .int .i64 r5, .slice A L.length cap]) 27)) HB4.out.2.2 HLL.out (HV.out.below (Below.step hb1 g4)) (HT.out.below (Below.step hb1 g4)))
  rw [← HLN.out] at HP
  obtain ⟨w4, hw4⟩ : ∃ w4, w4 = (w1.alloc (.cells (List.toArray [.int .i64 k, .int .i64 cd, .int .i64 t, .int .i64 i, .int .i64 c, .bool ask, .int .i64 r0, .int .i64 r1, .int .i64 r2, .int .i64 r3, .int .i64 r4, .int .i64 r5, .slice A L.length cap]) 27)) := ⟨_, rfl⟩
  obtain ⟨RB, hRB⟩ : ∃ RB, RB = w1.heap.size := ⟨_, rfl⟩
  rw [← hw4] at HB4 HP b4 g4
  rw [← hRB] at b4
  have HB5 := Lib.hid b4
  have HW4 := Lib.hid hw4
  have HRB := Lib.hid hRB
  clear hl1 hf1 hb1 g4 b4 hw4 hRB
  go_upto_region 2 with fail
  rw [← HW4.out, ← HRB.out]
  have y0 := HB5.out.cell 0 _ rfl
  have y1 := HB5.out.cell 1 _ rfl
  have y2 := HB5.out.cell 2 _ rfl
  have y3 := HB5.out.cell 3 _ rfl
  have y4 := HB5.out.cell 4 _ rfl
  have y5 := HB5.out.cell 5 _ rfl
  have y6 := HB5.out.cell 6 _ rfl
  have y7 := HB5.out.cell 7 _ rfl
  have y8 := HB5.out.cell 8 _ rfl
  have y9 := HB5.out.cell 9 _ rfl
  have y10 := HB5.out.cell 10 _ rfl
  have y11 := HB5.out.cell 11 _ rfl
  have y12 := HB5.out.cell 12 _ rfl
  go_wp2_with fail
  refine HP.out.mono ?_
  rintro e5 w5 ⟨rfl, hb5⟩
  have HB6 := Lib.hid (And.intro (HB4.out.1.below hb5) (And.intro (Below.step HB4.out.2.1 hb5) (And.intro (HB4.out.2.2.below hb5) (HB5.out.below hb5))))
  clear hb5 y0 y1 y2 y3 y4 y5 y6 y7 y8 y9 y10 y11 y12
  have y0 := HB6.out.2.2.2.cell 0 _ rfl
  have y1 := HB6.out.2.2.2.cell 1 _ rfl
  have y2 := HB6.out.2.2.2.cell 2 _ rfl
  have y3 := HB6.out.2.2.2.cell 3 _ rfl
  have y4 := HB6.out.2.2.2.cell 4 _ rfl
  have y5 := HB6.out.2.2.2.cell 5 _ rfl
  have y6 := HB6.out.2.2.2.cell 6 _ rfl
  have y7 := HB6.out.2.2.2.cell 7 _ rfl
  have y8 := HB6.out.2.2.2.cell 8 _ rfl
  have y9 := HB6.out.2.2.2.cell 9 _ rfl
  have y10 := HB6.out.2.2.2.cell 10 _ rfl
  have y11 := HB6.out.2.2.2.cell 11 _ rfl
  have y12 := HB6.out.2.2.2.cell 12 _ rfl
  go_wp2_with (refine wpList_store_bl rfl 27 (.tmp 2) (.tmp 23) rfl OB [.int .i64 0, .int .i64 0, .int .i64 0, .int .i64 0, .int .i64 0, .bool false, .int .i64 0, .int .i64 0, .int .i64 0, .int .i64 0, .int .i64 0, .int .i64 0, .slice none 0 0] [.int .i64 k, .int .i64 cd, .int .i64 t, .int .i64 i, .int .i64 c, .bool ask, .int .i64 r0, .int .i64 r1, .int .i64 r2, .int .i64 r3, .int .i64 r4, .int .i64 r5, .slice A L.length cap] rfl rfl HB6.out.1 rfl (by kernel_rfl) rfl ?_; intro w8 hb8 hk8 hs8 hbel8; have HH := Lib.hid (And.intro hb8 (And.intro hk8 (And.intro hs8 hbel8))); clear hb8 hk8 hs8 hbel8)
  refine bodyPost_ret (results_two (ty := 27) rfl _ _ OB [.int .i64 k, .int .i64 cd, .int .i64 t, .int .i64 i, .int .i64 c, .bool ask, .int .i64 r0, .int .i64 r1, .int .i64 r2, .int .i64 r3, .int .i64 r4, .int .i64 r5, .slice A L.length cap] _ _ rfl rfl HH.out.1 Tryz.underlying27 rfl (by kernel_rfl)) rfl ?_
  refine ⟨A, cap, rfl, HB6.out.2.2.1.kp (X := OB) (fun ad h1 h2 => ?_) (Nat.le_of_eq HH.out.2.2.1.symm) HH.out.2.1, HH.out.2.2.2 _ _ (Nat.le_of_eq HOE.out.symm) HB6.out.2.1⟩
  have h3 := HF1.out.2.1 ad h1 h2
  have := HOE.out
  omega

end Go.Proofs.YtinciphhoieonaaGreatDoor

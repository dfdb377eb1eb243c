/-
  The law's walk.
-/
import Derived.Test.YtinciphhoieonaaGreatDoorRows
import Derived.Test.YtinciphhoieonaaGreatDoorKit
import Derived.Test.YtinciphhoieonaaGreatDoorApp
import Derived.Test.YtinciphhoieonaaGreatDoorQuiet
import Derived.WalkKit
import Derived.ProofKit
import Derived.OpenShut
import Derived.ShutString
import Derived.Below
import Derived.Outline
import Derived.WalkLawsBesides
import Derived.WalkSpells
import Derived.Handy
import Derived.Deep.QuietTactic
import Derived.BigQuiet
import Derived.RegionTactic
import Derived.ChangeAlike
import Derived.Lib.Hide
import Derived.Laws.Rows
import Derived.Laws.Tables
import Derived.Laws.CopyOwn
import Derived.Laws.MakeOwn
import Derived.Laws.Entries
import Derived.Laws.OwnMore
import Derived.Deep.WholeRow
import Derived.Deep.LoopGhost
import Derived.Deep.AppendLies
import Derived.Deep.Draws
import Derived.Maps.AppendAt
import Derived.OwnWalk
import Derived.Deep.RegionHeld3
import Derived.Deep.Cut
import Derived.Deep.CutRange
import Derived.Deep.DeepCutAuto
import Derived.Deep.CutBlock
import Derived.Lib.SliceRun
import Derived.IntWalk
import Derived.Laws.Strings
import Derived.Lib.Bytealg
import Derived.Lib.Strings
import Derived.Laws.Externs
import Derived.Test.YtinciphhoieonaaGreatDoorAnSm
import Derived.Test.YtinciphhoieonaaGreatDoorAnXi
import Derived.Test.YtinciphhoieonaaGreatDoorAnFr
import Derived.Test.YtinciphhoieonaaGreatDoorAnG
import Derived.Test.YtinciphhoieonaaGreatDoorAnPn
import Derived.Test.YtinciphhoieonaaGreatDoorAnRp
import Derived.Test.YtinciphhoieonaaGreatDoorLnN
namespace Go.Proofs.YtinciphhoieonaaGreatDoor
open Go.ChangeShapes Go.WideShapes Go.ChangeAt Go.RowKit
set_option maxRecDepth 100000 in
set_option maxHeartbeats 8000000 in
theorem walk (k cd t i c : Int) (ask : Bool) (r0 r1 r2 r3 r4 r5 : Int) (L : List Lk) (A : Option Addr) (cap : Nat) (hcd : cd ≤ 9223372036854775807) (hl : L.length ≤ 140737488355328) (w : World) (hL : LkAt A L w) (hv : Vb w) (ht : Tb w) (hm : Ml w) : Calls Tryz.prog 3 #[.agg (List.toArray [.int .i64 k, .int .i64 cd, .int .i64 t, .int .i64 i, .int .i64 c, .bool ask, .int .i64 r0, .int .i64 r1, .int .i64 r2, .int .i64 r3, .int .i64 r4, .int .i64 r5, .slice A L.length cap])] w fun e w' => e = .returned (.bool true) ∧ Below w.heap.size w w' := by
  have bR := Bl.new w [.int .i64 k, .int .i64 cd, .int .i64 t, .int .i64 i, .int .i64 c, .bool ask, .int .i64 r0, .int .i64 r1, .int .i64 r2, .int .i64 r3, .int .i64 r4, .int .i64 r5, .slice A L.length cap] 27
  have gB : Below w.heap.size w (w.alloc (.cells (List.toArray [.int .i64 k, .int .i64 cd, .int .i64 t, .int .i64 i, .int .i64 c, .bool ask, .int .i64 r0, .int .i64 r1, .int .i64 r2, .int .i64 r3, .int .i64 r4, .int .i64 r5, .slice A L.length cap]) 27)) := by go_grown
  obtain ⟨W, hW⟩ : ∃ W, W = (w.alloc (.cells (List.toArray [.int .i64 k, .int .i64 cd, .int .i64 t, .int .i64 i, .int .i64 c, .bool ask, .int .i64 r0, .int .i64 r1, .int .i64 r2, .int .i64 r3, .int .i64 r4, .int .i64 r5, .slice A L.length cap]) 27)) := ⟨_, rfl⟩
  obtain ⟨RB, hRB⟩ : ∃ RB, RB = w.heap.size := ⟨_, rfl⟩
  rw [← hW] at bR gB
  rw [← hRB] at bR
  have HS : Hid (Bl RB [.int .i64 k, .int .i64 cd, .int .i64 t, .int .i64 i, .int .i64 c, .bool ask, .int .i64 r0, .int .i64 r1, .int .i64 r2, .int .i64 r3, .int .i64 r4, .int .i64 r5, .slice A L.length cap] W ∧ Below w.heap.size w W ∧ LkAt A L W) := Lib.hid ⟨bR, gB, hL.below gB⟩
  have HWE := Lib.hid hW
  have HRE := Lib.hid hRB
  have HV := Lib.hid hv
  have HT := Lib.hid ht
  have HM := Lib.hid hm
  have HCD := Lib.hid hcd
  clear bR gB hW hRB hL hv ht hm hcd
  by_cases hs : (20 : Int) < (L.length : Int)
  · have hd1 : decide ((20 : Int) < (L.length : Int)) = true := decide_eq_true hs
    clear hl
    go_enter Tryz.func3, Tryz.ntmps3
    go_upto_region 1 with fail
    rw [← HWE.out, ← HRE.out]
    have y12 := HS.out.1.cell 12 _ rfl
    go_wp2_with fail
    refine (awake_is W (HV.out.below HS.out.2.1) (HT.out.below HS.out.2.1) (HM.out.below HS.out.2.1)).mono ?_
    rintro e9 w9 ⟨rfl, hb9⟩
    have HE9 := Lib.hid (Below.step HS.out.2.1 hb9)
    clear hb9
    go_wp2_with fail
    go_ret
    exact ⟨rfl, HE9.out⟩
  · have HLL : Hid (L.length ≤ 20) := Lib.hid (by omega)
    have n1 : (L.length : Int) ≤ 20 := by omega
    have n3 : decide ((20 : Int) < (L.length : Int)) = false := decide_eq_false hs
    clear hs hl
    go_enter Tryz.func3, Tryz.ntmps3
    go_upto_region 1 with fail
    rw [← HWE.out, ← HRE.out]
    have y0 := HS.out.1.cell 0 _ rfl
    have y1 := HS.out.1.cell 1 _ rfl
    have y2 := HS.out.1.cell 2 _ rfl
    have y3 := HS.out.1.cell 3 _ rfl
    have y4 := HS.out.1.cell 4 _ rfl
    have y5 := HS.out.1.cell 5 _ rfl
    have y6 := HS.out.1.cell 6 _ rfl
    have y7 := HS.out.1.cell 7 _ rfl
    have y8 := HS.out.1.cell 8 _ rfl
    have y9 := HS.out.1.cell 9 _ rfl
    have y10 := HS.out.1.cell 10 _ rfl
    have y11 := HS.out.1.cell 11 _ rfl
    have y12 := HS.out.1.cell 12 _ rfl
    go_wp2_with fail
    refine (from_is k cd t i c ask r0 r1 r2 r3 r4 r5 L A cap W HS.out.2.2 (by have := HLL.out; omega)).mono ?_
    rintro e1 w1 ⟨A3, c3, rfl, hl3, hb1⟩
    have HL3 := Lib.hid hl3
    clear hl3
    have HS1 : Hid (Bl RB [.int .i64 k, .int .i64 cd, .int .i64 t, .int .i64 i, .int .i64 c, .bool ask, .int .i64 r0, .int .i64 r1, .int .i64 r2, .int .i64 r3, .int .i64 r4, .int .i64 r5, .slice A L.length cap] w1 ∧ Below w.heap.size w w1 ∧ LkAt A L w1) := Lib.hid ⟨HS.out.1.below hb1, Below.step HS.out.2.1 hb1, HS.out.2.2.below hb1⟩
    clear hb1
    clear y0 y1 y2 y3 y4 y5 y6 y7 y8 y9 y10 y11 y12
    go_wp2_with fail
    refine (rright_is k cd t i c ask r0 r1 r2 r3 r4 r5 L A3 c3 (by have := HLL.out; omega) w1 HL3.out).mono ?_
    rintro e2 w2 ⟨b1, rfl, hr, hb2⟩
    have HR : Hid (b1 = true ↔ Rt ⟨k, cd, t, i, c, ask, r0, r1, r2, r3, r4, r5, L⟩) := Lib.hid hr
    clear hr HL3
    have HS2 : Hid (Bl RB [.int .i64 k, .int .i64 cd, .int .i64 t, .int .i64 i, .int .i64 c, .bool ask, .int .i64 r0, .int .i64 r1, .int .i64 r2, .int .i64 r3, .int .i64 r4, .int .i64 r5, .slice A L.length cap] w2 ∧ Below w.heap.size w w2 ∧ LkAt A L w2) := Lib.hid ⟨HS1.out.1.below hb2, Below.step HS1.out.2.1 hb2, HS1.out.2.2.below hb2⟩
    clear hb2
    cases b1 with
    | false =>
      have HN : Hid (¬ Rt ⟨k, cd, t, i, c, ask, r0, r1, r2, r3, r4, r5, L⟩) := Lib.hid (fun h => by have := HR.out.2 h; cases this)
      clear HR
      have y0 := HS2.out.1.cell 0 _ rfl
      have y1 := HS2.out.1.cell 1 _ rfl
      have y2 := HS2.out.1.cell 2 _ rfl
      have y3 := HS2.out.1.cell 3 _ rfl
      have y4 := HS2.out.1.cell 4 _ rfl
      have y5 := HS2.out.1.cell 5 _ rfl
      have y6 := HS2.out.1.cell 6 _ rfl
      have y7 := HS2.out.1.cell 7 _ rfl
      have y8 := HS2.out.1.cell 8 _ rfl
      have y9 := HS2.out.1.cell 9 _ rfl
      have y10 := HS2.out.1.cell 10 _ rfl
      have y11 := HS2.out.1.cell 11 _ rfl
      have y12 := HS2.out.1.cell 12 _ rfl
      go_wp2_with fail
      refine (print_no k cd t i c ask r0 r1 r2 r3 r4 r5 L A cap HN.out (by have := HLL.out; omega) w2 HS2.out.2.2).mono ?_
      rintro e3 w3 ⟨rfl, hb3⟩
      have HS3 : Hid (Bl RB [.int .i64 k, .int .i64 cd, .int .i64 t, .int .i64 i, .int .i64 c, .bool ask, .int .i64 r0, .int .i64 r1, .int .i64 r2, .int .i64 r3, .int .i64 r4, .int .i64 r5, .slice A L.length cap] w3 ∧ Below w.heap.size w w3 ∧ LkAt A L w3) := Lib.hid ⟨HS2.out.1.below hb3, Below.step HS2.out.2.1 hb3, HS2.out.2.2.below hb3⟩
      clear hb3
      clear y0 y1 y2 y3 y4 y5 y6 y7 y8 y9 y10 y11 y12
      have y0 := HS3.out.1.cell 0 _ rfl
      have y1 := HS3.out.1.cell 1 _ rfl
      have y2 := HS3.out.1.cell 2 _ rfl
      have y3 := HS3.out.1.cell 3 _ rfl
      have y4 := HS3.out.1.cell 4 _ rfl
      have y5 := HS3.out.1.cell 5 _ rfl
      have y6 := HS3.out.1.cell 6 _ rfl
      have y7 := HS3.out.1.cell 7 _ rfl
      have y8 := HS3.out.1.cell 8 _ rfl
      have y9 := HS3.out.1.cell 9 _ rfl
      have y10 := HS3.out.1.cell 10 _ rfl
      have y11 := HS3.out.1.cell 11 _ rfl
      have y12 := HS3.out.1.cell 12 _ rfl
      go_wp2_with fail
      refine (right_any k cd t i c ask r0 r1 r2 r3 r4 r5 L A cap (by have := HLL.out; omega) w3 HS3.out.2.2).mono ?_
      rintro e4 w4 ⟨⟨b4, rfl, hb⟩, hb4⟩
      obtain rfl : b4 = false := by
        cases b4 with
        | false => rfl
        | true => exact absurd (hb.1 rfl) HN.out
      clear hb
      have HS4 : Hid (Bl RB [.int .i64 k, .int .i64 cd, .int .i64 t, .int .i64 i, .int .i64 c, .bool ask, .int .i64 r0, .int .i64 r1, .int .i64 r2, .int .i64 r3, .int .i64 r4, .int .i64 r5, .slice A L.length cap] w4 ∧ Below w.heap.size w w4 ∧ LkAt A L w4) := Lib.hid ⟨HS3.out.1.below hb4, Below.step HS3.out.2.1 hb4, HS3.out.2.2.below hb4⟩
      clear hb4
      clear y0 y1 y2 y3 y4 y5 y6 y7 y8 y9 y10 y11 y12
      go_wp2_with fail
      refine (awake_is w4 (HV.out.below HS4.out.2.1) (HT.out.below HS4.out.2.1) (HM.out.below HS4.out.2.1)).mono ?_
      rintro e5 w5 ⟨rfl, hb5⟩
      have HS5 : Hid (Bl RB [.int .i64 k, .int .i64 cd, .int .i64 t, .int .i64 i, .int .i64 c, .bool ask, .int .i64 r0, .int .i64 r1, .int .i64 r2, .int .i64 r3, .int .i64 r4, .int .i64 r5, .slice A L.length cap] w5 ∧ Below w.heap.size w w5 ∧ LkAt A L w5) := Lib.hid ⟨HS4.out.1.below hb5, Below.step HS4.out.2.1 hb5, HS4.out.2.2.below hb5⟩
      clear hb5
      go_wp2_with fail
      refine (num_ch [] 6 (by decide) (by decide) _ w5 (show Ch w5 6 [] _ from rfl)).mono ?_
      rintro e6 w6 ⟨rfl, hb6⟩
      have HS6 : Hid (Bl RB [.int .i64 k, .int .i64 cd, .int .i64 t, .int .i64 i, .int .i64 c, .bool ask, .int .i64 r0, .int .i64 r1, .int .i64 r2, .int .i64 r3, .int .i64 r4, .int .i64 r5, .slice A L.length cap] w6 ∧ Below w.heap.size w w6 ∧ LkAt A L w6) := Lib.hid ⟨HS5.out.1.below hb6, Below.step HS5.out.2.1 hb6, HS5.out.2.2.below hb6⟩
      clear hb6
      go_wp2_with fail
      go_ret
      exact ⟨rfl, HS6.out.2.1⟩
    | true =>
      have HA : Hid (Rt ⟨k, cd, t, i, c, ask, r0, r1, r2, r3, r4, r5, L⟩) := Lib.hid (HR.out.1 (by first | exact trivial | exact rfl))
      clear HR
      have y0 := HS2.out.1.cell 0 _ rfl
      have y1 := HS2.out.1.cell 1 _ rfl
      have y2 := HS2.out.1.cell 2 _ rfl
      have y3 := HS2.out.1.cell 3 _ rfl
      have y4 := HS2.out.1.cell 4 _ rfl
      have y5 := HS2.out.1.cell 5 _ rfl
      have y6 := HS2.out.1.cell 6 _ rfl
      have y7 := HS2.out.1.cell 7 _ rfl
      have y8 := HS2.out.1.cell 8 _ rfl
      have y9 := HS2.out.1.cell 9 _ rfl
      have y10 := HS2.out.1.cell 10 _ rfl
      have y11 := HS2.out.1.cell 11 _ rfl
      have y12 := HS2.out.1.cell 12 _ rfl
      go_wp2_with fail
      refine (print_is k cd t i c ask r0 r1 r2 r3 r4 r5 L A cap HA.out HCD.out w2 HS2.out.2.2 (by have := HLL.out; omega) (HV.out.below HS2.out.2.1) (HT.out.below HS2.out.2.1)).mono ?_
      rintro e3 w3 ⟨rfl, hb3⟩
      have HS7 : Hid (Bl RB [.int .i64 k, .int .i64 cd, .int .i64 t, .int .i64 i, .int .i64 c, .bool ask, .int .i64 r0, .int .i64 r1, .int .i64 r2, .int .i64 r3, .int .i64 r4, .int .i64 r5, .slice A L.length cap] w3 ∧ Below w.heap.size w w3 ∧ LkAt A L w3) := Lib.hid ⟨HS2.out.1.below hb3, Below.step HS2.out.2.1 hb3, HS2.out.2.2.below hb3⟩
      clear hb3
      clear y0 y1 y2 y3 y4 y5 y6 y7 y8 y9 y10 y11 y12
      obtain ⟨la, hla⟩ : ∃ la, la = jl (aw ⟨k, cd, t, i, c, ask, r0, r1, r2, r3, r4, r5, L⟩) := ⟨_, rfl⟩
      rw [← hla]
      have HLA := Lib.hid hla
      clear hla
      have y0 := HS7.out.1.cell 0 _ rfl
      have y1 := HS7.out.1.cell 1 _ rfl
      have y2 := HS7.out.1.cell 2 _ rfl
      have y3 := HS7.out.1.cell 3 _ rfl
      have y4 := HS7.out.1.cell 4 _ rfl
      have y5 := HS7.out.1.cell 5 _ rfl
      have y6 := HS7.out.1.cell 6 _ rfl
      have y7 := HS7.out.1.cell 7 _ rfl
      have y8 := HS7.out.1.cell 8 _ rfl
      have y9 := HS7.out.1.cell 9 _ rfl
      have y10 := HS7.out.1.cell 10 _ rfl
      have y11 := HS7.out.1.cell 11 _ rfl
      have y12 := HS7.out.1.cell 12 _ rfl
      go_wp2_with fail
      refine (right_any k cd t i c ask r0 r1 r2 r3 r4 r5 L A cap (by have := HLL.out; omega) w3 HS7.out.2.2).mono ?_
      rintro e4 w4 ⟨⟨b4, rfl, hb⟩, hb4⟩
      obtain rfl : b4 = true := hb.2 HA.out
      clear hb
      have HS8 : Hid (Bl RB [.int .i64 k, .int .i64 cd, .int .i64 t, .int .i64 i, .int .i64 c, .bool ask, .int .i64 r0, .int .i64 r1, .int .i64 r2, .int .i64 r3, .int .i64 r4, .int .i64 r5, .slice A L.length cap] w4 ∧ Below w.heap.size w w4 ∧ LkAt A L w4) := Lib.hid ⟨HS7.out.1.below hb4, Below.step HS7.out.2.1 hb4, HS7.out.2.2.below hb4⟩
      clear hb4
      clear y0 y1 y2 y3 y4 y5 y6 y7 y8 y9 y10 y11 y12
      have y0 := HS8.out.1.cell 0 _ rfl
      have y1 := HS8.out.1.cell 1 _ rfl
      have y2 := HS8.out.1.cell 2 _ rfl
      have y3 := HS8.out.1.cell 3 _ rfl
      have y4 := HS8.out.1.cell 4 _ rfl
      have y5 := HS8.out.1.cell 5 _ rfl
      have y6 := HS8.out.1.cell 6 _ rfl
      have y7 := HS8.out.1.cell 7 _ rfl
      have y8 := HS8.out.1.cell 8 _ rfl
      have y9 := HS8.out.1.cell 9 _ rfl
      have y10 := HS8.out.1.cell 10 _ rfl
      have y11 := HS8.out.1.cell 11 _ rfl
      have y12 := HS8.out.1.cell 12 _ rfl
      go_wp2_with fail
      refine (from_is k cd t i c ask r0 r1 r2 r3 r4 r5 L A cap w4 HS8.out.2.2 (by have := HLL.out; omega)).mono ?_
      rintro e5 w5 ⟨A5, c5, rfl, hl5, hb5⟩
      have HL5 := Lib.hid hl5
      clear hl5
      have HS9 : Hid (Bl RB [.int .i64 k, .int .i64 cd, .int .i64 t, .int .i64 i, .int .i64 c, .bool ask, .int .i64 r0, .int .i64 r1, .int .i64 r2, .int .i64 r3, .int .i64 r4, .int .i64 r5, .slice A L.length cap] w5 ∧ Below w.heap.size w w5 ∧ LkAt A L w5) := Lib.hid ⟨HS8.out.1.below hb5, Below.step HS8.out.2.1 hb5, HS8.out.2.2.below hb5⟩
      clear hb5
      clear y0 y1 y2 y3 y4 y5 y6 y7 y8 y9 y10 y11 y12
      go_wp2_with fail
      refine (rref_print k cd t i c ask r0 r1 r2 r3 r4 r5 L A5 c5 HA.out HCD.out (by have := HLL.out; omega) w5 HL5.out).mono ?_
      rintro e6 w6 ⟨rfl, hb6⟩
      rw [← HLA.out]
      have HS10 : Hid (Bl RB [.int .i64 k, .int .i64 cd, .int .i64 t, .int .i64 i, .int .i64 c, .bool ask, .int .i64 r0, .int .i64 r1, .int .i64 r2, .int .i64 r3, .int .i64 r4, .int .i64 r5, .slice A L.length cap] w6 ∧ Below w.heap.size w w6 ∧ LkAt A L w6) := Lib.hid ⟨HS9.out.1.below hb6, Below.step HS9.out.2.1 hb6, HS9.out.2.2.below hb6⟩
      clear hb6
      have y1 := HS10.out.1.cell 1 _ rfl
      by_cases hc9 : (9999999 : Int) < cd
      · have q9 : decide ((9999999 : Int) < cd) = true := decide_eq_true hc9
        go_wp2_with fail
        refine (awake_is w6 (HV.out.below HS10.out.2.1) (HT.out.below HS10.out.2.1) (HM.out.below HS10.out.2.1)).mono ?_
        rintro e9 w9 ⟨rfl, hb9⟩
        have HE9 := Lib.hid (Below.step HS10.out.2.1 hb9)
        clear hb9
        go_wp2_with fail
        go_ret
        exact ⟨rfl, HE9.out⟩
      · have q9 : decide ((9999999 : Int) < cd) = false := decide_eq_false hc9
        have HC9 := Lib.hid hc9
        clear hc9
        go_wp2_with fail
        clear y1
        have HPA := Lib.hid (parse_is k cd t i c ask r0 r1 r2 r3 r4 r5 L HA.out (by have := HC9.out; omega) (by have := HLL.out; omega) w6 (HV.out.below HS10.out.2.1) (HT.out.below HS10.out.2.1) (HM.out.below HS10.out.2.1))
        rw [← HLA.out] at HPA
        refine HPA.out.mono ?_
        rintro e7 w7 ⟨A7, c7, rfl, hl7, hb7⟩
        have HS11 : Hid (Bl RB [.int .i64 k, .int .i64 cd, .int .i64 t, .int .i64 i, .int .i64 c, .bool ask, .int .i64 r0, .int .i64 r1, .int .i64 r2, .int .i64 r3, .int .i64 r4, .int .i64 r5, .slice A L.length cap] w7 ∧ Below w.heap.size w w7 ∧ LkAt A L w7) := Lib.hid ⟨HS10.out.1.below hb7, Below.step HS10.out.2.1 hb7, HS10.out.2.2.below hb7⟩
        clear hb7
        have g8 : Below w7.heap.size w7 (w7.alloc (.cells (List.toArray [.int .i64 k, .int .i64 cd, .int .i64 t, .int .i64 i, .int .i64 c, .bool ask, .int .i64 r0, .int .i64 r1, .int .i64 r2, .int .i64 r3, .int .i64 r4, .int .i64 r5, .slice A7 L.length c7]) 27)) := by go_grown
        have b8 := Bl.new w7 [.int .i64 k, .int .i64 cd, .int .i64 t, .int .i64 i, .int .i64 c, .bool ask, .int .i64 r0, .int .i64 r1, .int .i64 r2, .int .i64 r3, .int .i64 r4, .int .i64 r5, .slice A7 L.length c7] 27
        obtain ⟨w8, hw8⟩ : ∃ w8, w8 = (w7.alloc (.cells (List.toArray [.int .i64 k, .int .i64 cd, .int .i64 t, .int .i64 i, .int .i64 c, .bool ask, .int .i64 r0, .int .i64 r1, .int .i64 r2, .int .i64 r3, .int .i64 r4, .int .i64 r5, .slice A7 L.length c7]) 27)) := ⟨_, rfl⟩
        obtain ⟨XB, hXB⟩ : ∃ XB, XB = w7.heap.size := ⟨_, rfl⟩
        rw [← hw8] at g8 b8
        rw [← hXB] at b8
        have HX8 : Hid (Bl XB [.int .i64 k, .int .i64 cd, .int .i64 t, .int .i64 i, .int .i64 c, .bool ask, .int .i64 r0, .int .i64 r1, .int .i64 r2, .int .i64 r3, .int .i64 r4, .int .i64 r5, .slice A7 L.length c7] w8 ∧ LkAt A7 L w8) := Lib.hid ⟨b8, hl7.below g8⟩
        have HW8 := Lib.hid hw8
        have HXB := Lib.hid hXB
        clear hl7 b8 hw8 hXB
        have HS12 : Hid (Bl RB [.int .i64 k, .int .i64 cd, .int .i64 t, .int .i64 i, .int .i64 c, .bool ask, .int .i64 r0, .int .i64 r1, .int .i64 r2, .int .i64 r3, .int .i64 r4, .int .i64 r5, .slice A L.length cap] w8 ∧ Below w.heap.size w w8 ∧ LkAt A L w8) := Lib.hid ⟨HS11.out.1.below g8, Below.step HS11.out.2.1 g8, HS11.out.2.2.below g8⟩
        clear g8
        go_upto_region 14 with fail
        rw [← HW8.out, ← HXB.out]
        go_wp2_with fail
        refine (awake_is w8 (HV.out.below HS12.out.2.1) (HT.out.below HS12.out.2.1) (HM.out.below HS12.out.2.1)).mono ?_
        rintro e9 w9 ⟨rfl, hb9⟩
        have HX9 : Hid (Bl XB [.int .i64 k, .int .i64 cd, .int .i64 t, .int .i64 i, .int .i64 c, .bool ask, .int .i64 r0, .int .i64 r1, .int .i64 r2, .int .i64 r3, .int .i64 r4, .int .i64 r5, .slice A7 L.length c7] w9 ∧ LkAt A7 L w9) := Lib.hid ⟨HX8.out.1.below hb9, HX8.out.2.below hb9⟩
        have HS13 : Hid (Bl RB [.int .i64 k, .int .i64 cd, .int .i64 t, .int .i64 i, .int .i64 c, .bool ask, .int .i64 r0, .int .i64 r1, .int .i64 r2, .int .i64 r3, .int .i64 r4, .int .i64 r5, .slice A L.length cap] w9 ∧ Below w.heap.size w w9 ∧ LkAt A L w9) := Lib.hid ⟨HS12.out.1.below hb9, Below.step HS12.out.2.1 hb9, HS12.out.2.2.below hb9⟩
        clear hb9
        have y0 := HS13.out.1.cell 0 _ rfl
        have y1 := HS13.out.1.cell 1 _ rfl
        have y2 := HS13.out.1.cell 2 _ rfl
        have y3 := HS13.out.1.cell 3 _ rfl
        have y4 := HS13.out.1.cell 4 _ rfl
        have y5 := HS13.out.1.cell 5 _ rfl
        have y6 := HS13.out.1.cell 6 _ rfl
        have y7 := HS13.out.1.cell 7 _ rfl
        have y8 := HS13.out.1.cell 8 _ rfl
        have y9 := HS13.out.1.cell 9 _ rfl
        have y10 := HS13.out.1.cell 10 _ rfl
        have y11 := HS13.out.1.cell 11 _ rfl
        have y12 := HS13.out.1.cell 12 _ rfl
        have z0 := HX9.out.1.cell 0 _ rfl
        have z1 := HX9.out.1.cell 1 _ rfl
        have z2 := HX9.out.1.cell 2 _ rfl
        have z3 := HX9.out.1.cell 3 _ rfl
        have z4 := HX9.out.1.cell 4 _ rfl
        have z5 := HX9.out.1.cell 5 _ rfl
        have z6 := HX9.out.1.cell 6 _ rfl
        have z7 := HX9.out.1.cell 7 _ rfl
        have z8 := HX9.out.1.cell 8 _ rfl
        have z9 := HX9.out.1.cell 9 _ rfl
        have z10 := HX9.out.1.cell 10 _ rfl
        have z11 := HX9.out.1.cell 11 _ rfl
        have z12 := HX9.out.1.cell 12 _ rfl
        go_wp2_with fail
        refine (seat_same k cd t i c ask r0 r1 r2 r3 r4 r5 L A7 c7 k cd t i c ask r0 r1 r2 r3 r4 r5 L A cap (by have := HLL.out; omega) (by have := HLL.out; omega) w9 HX9.out.2 HS13.out.2.2).mono ?_
        rintro e10 w10 ⟨⟨b10, rfl, hb⟩, hb10⟩
        obtain rfl : b10 = true := hb.2 rfl
        have HE := Lib.hid (Below.step HS13.out.2.1 hb10)
        clear hb10 hb
        go_wp2_with fail
        go_ret
        exact ⟨rfl, HE.out⟩

end Go.Proofs.YtinciphhoieonaaGreatDoor

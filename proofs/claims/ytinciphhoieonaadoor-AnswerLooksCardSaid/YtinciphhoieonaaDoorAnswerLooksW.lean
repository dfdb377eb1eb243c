/-
  The law's walk.
-/
import Derived.Test.YtinciphhoieonaaDoorRows
import Derived.Test.YtinciphhoieonaaDoorKit
import Derived.Test.YtinciphhoieonaaDoorApp
import Derived.Test.YtinciphhoieonaaDoorQuiet
import Derived.WalkKit
import Derived.ProofKit
import Derived.OpenShut
import Derived.ShutString
import Derived.Below
import Derived.Outline
import Derived.WalkLawsBesides
import Derived.WalkSpells
import Derived.Handy
import Derived.Deep.QuietTactic
import Derived.BigQuiet
import Derived.RegionTactic
import Derived.ChangeAlike
import Derived.Lib.Hide
import Derived.Laws.Rows
import Derived.Laws.Tables
import Derived.Laws.CopyOwn
import Derived.Laws.MakeOwn
import Derived.Laws.Entries
import Derived.Laws.OwnMore
import Derived.Deep.WholeRow
import Derived.Deep.LoopGhost
import Derived.Deep.AppendLies
import Derived.Deep.Draws
import Derived.Maps.AppendAt
import Derived.OwnWalk
import Derived.Deep.RegionHeld3
import Derived.Deep.Cut
import Derived.Deep.CutRange
import Derived.Deep.DeepCutAuto
import Derived.Deep.CutBlock
import Derived.Lib.SliceRun
import Derived.IntWalk
import Derived.Laws.Strings
import Derived.Lib.Bytealg
import Derived.Lib.Strings
import Derived.Laws.Externs
import Derived.Test.YtinciphhoieonaaDoorAnY
import Derived.Test.YtinciphhoieonaaDoorAnX
import Derived.Test.YtinciphhoieonaaDoorAnV
import Derived.Test.YtinciphhoieonaaDoorAnG
namespace Go.Proofs.YtinciphhoieonaaDoor
open Go.ChangeShapes Go.WideShapes Go.ChangeAt Go.RowKit
set_option maxRecDepth 100000 in
set_option maxHeartbeats 8000000 in
theorem walk (k cd t i c : Int) (ask : Bool) (r0 r1 r2 r3 r4 r5 : Int) (L : List Lk) (A : Option Addr) (cap : Nat) (k' cd' t' i' c' : Int) (ask' : Bool) (r0' r1' r2' r3' r4' r5' : Int) (L' : List Lk) (A' : Option Addr) (cap' : Nat) (hcd : cd ≤ 9223372036854775807) (hcd' : cd' ≤ 9223372036854775807) (hl : L.length ≤ 140737488355328) (hl' : L'.length ≤ 140737488355328) (w : World) (hL : LkAt A L w) (hL' : LkAt A' L' w) (hv : Vb w) (ht : Tb w) (hm : Ml w) : Calls Tryd.prog 3 #[.agg (List.toArray [.int .i64 k, .int .i64 cd, .int .i64 t, .int .i64 i, .int .i64 c, .bool ask, .int .i64 r0, .int .i64 r1, .int .i64 r2, .int .i64 r3, .int .i64 r4, .int .i64 r5, .slice A L.length cap]), .agg (List.toArray [.int .i64 k', .int .i64 cd', .int .i64 t', .int .i64 i', .int .i64 c', .bool ask', .int .i64 r0', .int .i64 r1', .int .i64 r2', .int .i64 r3', .int .i64 r4', .int .i64 r5', (.slice A' L'.length cap')])] w fun e w' => e = .returned (.bool true) ∧ Below w.heap.size w w' := by
  have bR := (Bl.new w [.int .i64 k, .int .i64 cd, .int .i64 t, .int .i64 i, .int .i64 c, .bool ask, .int .i64 r0, .int .i64 r1, .int .i64 r2, .int .i64 r3, .int .i64 r4, .int .i64 r5, .slice A L.length cap] 26).below (w' := ((w.alloc (.cells (List.toArray [.int .i64 k, .int .i64 cd, .int .i64 t, .int .i64 i, .int .i64 c, .bool ask, .int .i64 r0, .int .i64 r1, .int .i64 r2, .int .i64 r3, .int .i64 r4, .int .i64 r5, .slice A L.length cap]) 26)).alloc (.cells (List.toArray [.int .i64 k', .int .i64 cd', .int .i64 t', .int .i64 i', .int .i64 c', .bool ask', .int .i64 r0', .int .i64 r1', .int .i64 r2', .int .i64 r3', .int .i64 r4', .int .i64 r5', (.slice A' L'.length cap')]) 26))) (by go_grown)
  have bQ := Bl.new (w.alloc (.cells (List.toArray [.int .i64 k, .int .i64 cd, .int .i64 t, .int .i64 i, .int .i64 c, .bool ask, .int .i64 r0, .int .i64 r1, .int .i64 r2, .int .i64 r3, .int .i64 r4, .int .i64 r5, .slice A L.length cap]) 26)) [.int .i64 k', .int .i64 cd', .int .i64 t', .int .i64 i', .int .i64 c', .bool ask', .int .i64 r0', .int .i64 r1', .int .i64 r2', .int .i64 r3', .int .i64 r4', .int .i64 r5', (.slice A' L'.length cap')] 26
  have gB : Below w.heap.size w ((w.alloc (.cells (List.toArray [.int .i64 k, .int .i64 cd, .int .i64 t, .int .i64 i, .int .i64 c, .bool ask, .int .i64 r0, .int .i64 r1, .int .i64 r2, .int .i64 r3, .int .i64 r4, .int .i64 r5, .slice A L.length cap]) 26)).alloc (.cells (List.toArray [.int .i64 k', .int .i64 cd', .int .i64 t', .int .i64 i', .int .i64 c', .bool ask', .int .i64 r0', .int .i64 r1', .int .i64 r2', .int .i64 r3', .int .i64 r4', .int .i64 r5', (.slice A' L'.length cap')]) 26)) := by go_grown
  rw [World.size_alloc] at bQ
  obtain ⟨W, hW⟩ : ∃ W, W = ((w.alloc (.cells (List.toArray [.int .i64 k, .int .i64 cd, .int .i64 t, .int .i64 i, .int .i64 c, .bool ask, .int .i64 r0, .int .i64 r1, .int .i64 r2, .int .i64 r3, .int .i64 r4, .int .i64 r5, .slice A L.length cap]) 26)).alloc (.cells (List.toArray [.int .i64 k', .int .i64 cd', .int .i64 t', .int .i64 i', .int .i64 c', .bool ask', .int .i64 r0', .int .i64 r1', .int .i64 r2', .int .i64 r3', .int .i64 r4', .int .i64 r5', (.slice A' L'.length cap')]) 26)) := ⟨_, rfl⟩
  obtain ⟨RB, hRB⟩ : ∃ RB, RB = w.heap.size := ⟨_, rfl⟩
  obtain ⟨QB, hQB⟩ : ∃ QB, QB = w.heap.size + 1 := ⟨_, rfl⟩
  rw [← hW] at bR bQ gB
  rw [← hRB] at bR
  rw [← hQB] at bQ
  have HS : Hid (Bl RB [.int .i64 k, .int .i64 cd, .int .i64 t, .int .i64 i, .int .i64 c, .bool ask, .int .i64 r0, .int .i64 r1, .int .i64 r2, .int .i64 r3, .int .i64 r4, .int .i64 r5, .slice A L.length cap] W ∧ Bl QB [.int .i64 k', .int .i64 cd', .int .i64 t', .int .i64 i', .int .i64 c', .bool ask', .int .i64 r0', .int .i64 r1', .int .i64 r2', .int .i64 r3', .int .i64 r4', .int .i64 r5', (.slice A' L'.length cap')] W ∧ Below w.heap.size w W ∧ LkAt A L W ∧ LkAt A' L' W) := Lib.hid ⟨bR, bQ, gB, hL.below gB, hL'.below gB⟩
  have HWE := Lib.hid hW
  have HRE := Lib.hid hRB
  have HQE := Lib.hid hQB
  have HV := Lib.hid hv
  have HT := Lib.hid ht
  have HM := Lib.hid hm
  have HCD := Lib.hid hcd
  have HCD2 := Lib.hid hcd'
  clear bR bQ gB hW hRB hQB hL hL' hv ht hm hcd hcd'
  by_cases hsum : (20 : Int) < (L.length : Int) + (L'.length : Int)
  · have hw1 : wrap64 ((L.length : Int) + (L'.length : Int)) = (L.length : Int) + (L'.length : Int) := IntWalk.wrap64_in _ (by omega)
    have hd1 : decide ((20 : Int) < (L.length : Int) + (L'.length : Int)) = true := decide_eq_true hsum
    clear hl hl'
    go_enter Tryd.func3, Tryd.ntmps3
    go_upto_region 1 with fail
    rw [← HWE.out, ← HQE.out, ← HRE.out]
    have y12 := HS.out.1.cell 12 _ rfl
    have z12 := HS.out.2.1.cell 12 _ rfl
    go_wp2_with fail
    refine (awake_is W (HV.out.below HS.out.2.2.1) (HT.out.below HS.out.2.2.1) (HM.out.below HS.out.2.2.1)).mono ?_
    rintro e9 w9 ⟨rfl, hb9⟩
    have HE9 := Lib.hid (Below.step HS.out.2.2.1 hb9)
    clear hb9
    go_wp2_with fail
    go_ret
    exact ⟨rfl, HE9.out⟩
  · have HLL : Hid (L.length ≤ 20 ∧ L'.length ≤ 20) := Lib.hid (by omega)
    have n1 : (L.length : Int) ≤ 20 := by omega
    have n2 : (L'.length : Int) ≤ 20 := by omega
    have n3 : decide ((20 : Int) < (L.length : Int) + (L'.length : Int)) = false := decide_eq_false hsum
    have hw1 : wrap64 ((L.length : Int) + (L'.length : Int)) = (L.length : Int) + (L'.length : Int) := IntWalk.wrap64_in _ (by omega)
    clear hsum hl hl'
    go_enter Tryd.func3, Tryd.ntmps3
    go_upto_region 1 with fail
    rw [← HWE.out, ← HQE.out, ← HRE.out]
    have y0 := HS.out.1.cell 0 _ rfl
    have y1 := HS.out.1.cell 1 _ rfl
    have y2 := HS.out.1.cell 2 _ rfl
    have y3 := HS.out.1.cell 3 _ rfl
    have y4 := HS.out.1.cell 4 _ rfl
    have y5 := HS.out.1.cell 5 _ rfl
    have y6 := HS.out.1.cell 6 _ rfl
    have y7 := HS.out.1.cell 7 _ rfl
    have y8 := HS.out.1.cell 8 _ rfl
    have y9 := HS.out.1.cell 9 _ rfl
    have y10 := HS.out.1.cell 10 _ rfl
    have y11 := HS.out.1.cell 11 _ rfl
    have y12 := HS.out.1.cell 12 _ rfl
    have z12 := HS.out.2.1.cell 12 _ rfl
    go_wp2_with fail
    refine (rright_is k cd t i c ask r0 r1 r2 r3 r4 r5 L A cap (by have := HLL.out; omega) W HS.out.2.2.2.1).mono ?_
    rintro e1 w1 ⟨b1, rfl, hr1, hb1⟩
    have HS1 : Hid (Bl RB [.int .i64 k, .int .i64 cd, .int .i64 t, .int .i64 i, .int .i64 c, .bool ask, .int .i64 r0, .int .i64 r1, .int .i64 r2, .int .i64 r3, .int .i64 r4, .int .i64 r5, .slice A L.length cap] w1 ∧ Bl QB [.int .i64 k', .int .i64 cd', .int .i64 t', .int .i64 i', .int .i64 c', .bool ask', .int .i64 r0', .int .i64 r1', .int .i64 r2', .int .i64 r3', .int .i64 r4', .int .i64 r5', (.slice A' L'.length cap')] w1 ∧ Below w.heap.size w w1 ∧ LkAt A L w1 ∧ LkAt A' L' w1) := Lib.hid ⟨HS.out.1.below hb1, HS.out.2.1.below hb1, Below.step HS.out.2.2.1 hb1, HS.out.2.2.2.1.below hb1, HS.out.2.2.2.2.below hb1⟩
    clear hb1
    clear y0 y1 y2 y3 y4 y5 y6 y7 y8 y9 y10 y11 y12
    clear z12
    have HR1 := Lib.hid hr1
    clear hr1
    cases b1 with
    | false =>
      go_wp2_with fail
      refine (awake_is w1 (HV.out.below HS1.out.2.2.1) (HT.out.below HS1.out.2.2.1) (HM.out.below HS1.out.2.2.1)).mono ?_
      rintro e9 w9 ⟨rfl, hb9⟩
      have HE9 := Lib.hid (Below.step HS1.out.2.2.1 hb9)
      clear hb9
      go_wp2_with fail
      go_ret
      exact ⟨rfl, HE9.out⟩
    | true =>
      have z0 := HS1.out.2.1.cell 0 _ rfl
      have z1 := HS1.out.2.1.cell 1 _ rfl
      have z2 := HS1.out.2.1.cell 2 _ rfl
      have z3 := HS1.out.2.1.cell 3 _ rfl
      have z4 := HS1.out.2.1.cell 4 _ rfl
      have z5 := HS1.out.2.1.cell 5 _ rfl
      have z6 := HS1.out.2.1.cell 6 _ rfl
      have z7 := HS1.out.2.1.cell 7 _ rfl
      have z8 := HS1.out.2.1.cell 8 _ rfl
      have z9 := HS1.out.2.1.cell 9 _ rfl
      have z10 := HS1.out.2.1.cell 10 _ rfl
      have z11 := HS1.out.2.1.cell 11 _ rfl
      have z12 := HS1.out.2.1.cell 12 _ rfl
      go_wp2_with fail
      refine (rright_is k' cd' t' i' c' ask' r0' r1' r2' r3' r4' r5' L' A' cap' (by have := HLL.out; omega) w1 HS1.out.2.2.2.2).mono ?_
      rintro e2 w2 ⟨b2, rfl, hr2, hb2⟩
      have HS2 : Hid (Bl RB [.int .i64 k, .int .i64 cd, .int .i64 t, .int .i64 i, .int .i64 c, .bool ask, .int .i64 r0, .int .i64 r1, .int .i64 r2, .int .i64 r3, .int .i64 r4, .int .i64 r5, .slice A L.length cap] w2 ∧ Bl QB [.int .i64 k', .int .i64 cd', .int .i64 t', .int .i64 i', .int .i64 c', .bool ask', .int .i64 r0', .int .i64 r1', .int .i64 r2', .int .i64 r3', .int .i64 r4', .int .i64 r5', (.slice A' L'.length cap')] w2 ∧ Below w.heap.size w w2 ∧ LkAt A L w2 ∧ LkAt A' L' w2) := Lib.hid ⟨HS1.out.1.below hb2, HS1.out.2.1.below hb2, Below.step HS1.out.2.2.1 hb2, HS1.out.2.2.2.1.below hb2, HS1.out.2.2.2.2.below hb2⟩
      clear hb2
      clear z0 z1 z2 z3 z4 z5 z6 z7 z8 z9 z10 z11 z12
      have HR2 := Lib.hid hr2
      clear hr2
      cases b2 with
      | false =>
        go_wp2_with fail
        refine (awake_is w2 (HV.out.below HS2.out.2.2.1) (HT.out.below HS2.out.2.2.1) (HM.out.below HS2.out.2.2.1)).mono ?_
        rintro e9 w9 ⟨rfl, hb9⟩
        have HE9 := Lib.hid (Below.step HS2.out.2.2.1 hb9)
        clear hb9
        go_wp2_with fail
        go_ret
        exact ⟨rfl, HE9.out⟩
      | true =>
        have HA := Lib.hid (HR1.out (by first | exact trivial | exact rfl))
        have HB := Lib.hid (HR2.out (by first | exact trivial | exact rfl))
        clear HR1 HR2
        have y0 := HS2.out.1.cell 0 _ rfl
        have y1 := HS2.out.1.cell 1 _ rfl
        have y2 := HS2.out.1.cell 2 _ rfl
        have y3 := HS2.out.1.cell 3 _ rfl
        have y4 := HS2.out.1.cell 4 _ rfl
        have y5 := HS2.out.1.cell 5 _ rfl
        have y6 := HS2.out.1.cell 6 _ rfl
        have y7 := HS2.out.1.cell 7 _ rfl
        have y8 := HS2.out.1.cell 8 _ rfl
        have y9 := HS2.out.1.cell 9 _ rfl
        have y10 := HS2.out.1.cell 10 _ rfl
        have y11 := HS2.out.1.cell 11 _ rfl
        have y12 := HS2.out.1.cell 12 _ rfl
        go_wp2_with fail
        refine (to_is k cd t i c ask r0 r1 r2 r3 r4 r5 L A cap w2 HS2.out.2.2.2.1 (by have := HLL.out; omega)).mono ?_
        rintro e3 w3 ⟨A3, c3, rfl, hl3, hb3⟩
        have HL3 := Lib.hid hl3
        clear hl3
        have HS3 : Hid (Bl RB [.int .i64 k, .int .i64 cd, .int .i64 t, .int .i64 i, .int .i64 c, .bool ask, .int .i64 r0, .int .i64 r1, .int .i64 r2, .int .i64 r3, .int .i64 r4, .int .i64 r5, .slice A L.length cap] w3 ∧ Bl QB [.int .i64 k', .int .i64 cd', .int .i64 t', .int .i64 i', .int .i64 c', .bool ask', .int .i64 r0', .int .i64 r1', .int .i64 r2', .int .i64 r3', .int .i64 r4', .int .i64 r5', (.slice A' L'.length cap')] w3 ∧ Below w.heap.size w w3 ∧ LkAt A L w3 ∧ LkAt A' L' w3) := Lib.hid ⟨HS2.out.1.below hb3, HS2.out.2.1.below hb3, Below.step HS2.out.2.2.1 hb3, HS2.out.2.2.2.1.below hb3, HS2.out.2.2.2.2.below hb3⟩
        clear hb3
        clear y0 y1 y2 y3 y4 y5 y6 y7 y8 y9 y10 y11 y12
        go_wp2_with fail
        refine (print_is k cd t i c ask r0 r1 r2 r3 r4 r5 L A3 c3 HA.out HCD.out w3 HL3.out (by have := HLL.out; omega) (HV.out.below HS3.out.2.2.1) (HT.out.below HS3.out.2.2.1)).mono ?_
        rintro e4 w4 ⟨rfl, hb4⟩
        have HS4 : Hid (Bl RB [.int .i64 k, .int .i64 cd, .int .i64 t, .int .i64 i, .int .i64 c, .bool ask, .int .i64 r0, .int .i64 r1, .int .i64 r2, .int .i64 r3, .int .i64 r4, .int .i64 r5, .slice A L.length cap] w4 ∧ Bl QB [.int .i64 k', .int .i64 cd', .int .i64 t', .int .i64 i', .int .i64 c', .bool ask', .int .i64 r0', .int .i64 r1', .int .i64 r2', .int .i64 r3', .int .i64 r4', .int .i64 r5', (.slice A' L'.length cap')] w4 ∧ Below w.heap.size w w4 ∧ LkAt A L w4 ∧ LkAt A' L' w4) := Lib.hid ⟨HS3.out.1.below hb4, HS3.out.2.1.below hb4, Below.step HS3.out.2.2.1 hb4, HS3.out.2.2.2.1.below hb4, HS3.out.2.2.2.2.below hb4⟩
        clear hb4
        obtain ⟨la, hla⟩ : ∃ la, la = jl (aw (⟨k, cd, t, i, c, ask, r0, r1, r2, r3, r4, r5, L⟩ : Rp)) := ⟨_, rfl⟩
        rw [← hla]
        have HLA := Lib.hid hla
        clear hla HL3
        have z0 := HS4.out.2.1.cell 0 _ rfl
        have z1 := HS4.out.2.1.cell 1 _ rfl
        have z2 := HS4.out.2.1.cell 2 _ rfl
        have z3 := HS4.out.2.1.cell 3 _ rfl
        have z4 := HS4.out.2.1.cell 4 _ rfl
        have z5 := HS4.out.2.1.cell 5 _ rfl
        have z6 := HS4.out.2.1.cell 6 _ rfl
        have z7 := HS4.out.2.1.cell 7 _ rfl
        have z8 := HS4.out.2.1.cell 8 _ rfl
        have z9 := HS4.out.2.1.cell 9 _ rfl
        have z10 := HS4.out.2.1.cell 10 _ rfl
        have z11 := HS4.out.2.1.cell 11 _ rfl
        have z12 := HS4.out.2.1.cell 12 _ rfl
        go_wp2_with fail
        refine (to_is k' cd' t' i' c' ask' r0' r1' r2' r3' r4' r5' L' A' cap' w4 HS4.out.2.2.2.2 (by have := HLL.out; omega)).mono ?_
        rintro e5 w5 ⟨A5, c5, rfl, hl5, hb5⟩
        have HL5 := Lib.hid hl5
        clear hl5
        have HS5 : Hid (Bl RB [.int .i64 k, .int .i64 cd, .int .i64 t, .int .i64 i, .int .i64 c, .bool ask, .int .i64 r0, .int .i64 r1, .int .i64 r2, .int .i64 r3, .int .i64 r4, .int .i64 r5, .slice A L.length cap] w5 ∧ Bl QB [.int .i64 k', .int .i64 cd', .int .i64 t', .int .i64 i', .int .i64 c', .bool ask', .int .i64 r0', .int .i64 r1', .int .i64 r2', .int .i64 r3', .int .i64 r4', .int .i64 r5', (.slice A' L'.length cap')] w5 ∧ Below w.heap.size w w5 ∧ LkAt A L w5 ∧ LkAt A' L' w5) := Lib.hid ⟨HS4.out.1.below hb5, HS4.out.2.1.below hb5, Below.step HS4.out.2.2.1 hb5, HS4.out.2.2.2.1.below hb5, HS4.out.2.2.2.2.below hb5⟩
        clear hb5
        clear z0 z1 z2 z3 z4 z5 z6 z7 z8 z9 z10 z11 z12
        go_wp2_with fail
        refine (print_is k' cd' t' i' c' ask' r0' r1' r2' r3' r4' r5' L' A5 c5 HB.out HCD2.out w5 HL5.out (by have := HLL.out; omega) (HV.out.below HS5.out.2.2.1) (HT.out.below HS5.out.2.2.1)).mono ?_
        rintro e6 w6 ⟨rfl, hb6⟩
        have HS6 : Hid (Bl RB [.int .i64 k, .int .i64 cd, .int .i64 t, .int .i64 i, .int .i64 c, .bool ask, .int .i64 r0, .int .i64 r1, .int .i64 r2, .int .i64 r3, .int .i64 r4, .int .i64 r5, .slice A L.length cap] w6 ∧ Bl QB [.int .i64 k', .int .i64 cd', .int .i64 t', .int .i64 i', .int .i64 c', .bool ask', .int .i64 r0', .int .i64 r1', .int .i64 r2', .int .i64 r3', .int .i64 r4', .int .i64 r5', (.slice A' L'.length cap')] w6 ∧ Below w.heap.size w w6 ∧ LkAt A L w6 ∧ LkAt A' L' w6) := Lib.hid ⟨HS5.out.1.below hb6, HS5.out.2.1.below hb6, Below.step HS5.out.2.2.1 hb6, HS5.out.2.2.2.1.below hb6, HS5.out.2.2.2.2.below hb6⟩
        clear hb6
        obtain ⟨lb, hlb⟩ : ∃ lb, lb = jl (aw (⟨k', cd', t', i', c', ask', r0', r1', r2', r3', r4', r5', L'⟩ : Rp)) := ⟨_, rfl⟩
        rw [← hlb]
        have HLB := Lib.hid hlb
        clear hlb HL5
        go_wp2_with fail
        refine (awake_is w6 (HV.out.below HS6.out.2.2.1) (HT.out.below HS6.out.2.2.1) (HM.out.below HS6.out.2.2.1)).mono ?_
        rintro e7 w7 ⟨rfl, hb7⟩
        have HS7 : Hid (Bl RB [.int .i64 k, .int .i64 cd, .int .i64 t, .int .i64 i, .int .i64 c, .bool ask, .int .i64 r0, .int .i64 r1, .int .i64 r2, .int .i64 r3, .int .i64 r4, .int .i64 r5, .slice A L.length cap] w7 ∧ Bl QB [.int .i64 k', .int .i64 cd', .int .i64 t', .int .i64 i', .int .i64 c', .bool ask', .int .i64 r0', .int .i64 r1', .int .i64 r2', .int .i64 r3', .int .i64 r4', .int .i64 r5', (.slice A' L'.length cap')] w7 ∧ Below w.heap.size w w7 ∧ LkAt A L w7 ∧ LkAt A' L' w7) := Lib.hid ⟨HS6.out.1.below hb7, HS6.out.2.1.below hb7, Below.step HS6.out.2.2.1 hb7, HS6.out.2.2.2.1.below hb7, HS6.out.2.2.2.2.below hb7⟩
        clear hb7
        have y0 := HS7.out.1.cell 0 _ rfl
        have y1 := HS7.out.1.cell 1 _ rfl
        have y2 := HS7.out.1.cell 2 _ rfl
        have y3 := HS7.out.1.cell 3 _ rfl
        have y4 := HS7.out.1.cell 4 _ rfl
        have y5 := HS7.out.1.cell 5 _ rfl
        have y6 := HS7.out.1.cell 6 _ rfl
        have y7 := HS7.out.1.cell 7 _ rfl
        have y8 := HS7.out.1.cell 8 _ rfl
        have y9 := HS7.out.1.cell 9 _ rfl
        have y10 := HS7.out.1.cell 10 _ rfl
        have y11 := HS7.out.1.cell 11 _ rfl
        have y12 := HS7.out.1.cell 12 _ rfl
        have z0 := HS7.out.2.1.cell 0 _ rfl
        have z1 := HS7.out.2.1.cell 1 _ rfl
        have z2 := HS7.out.2.1.cell 2 _ rfl
        have z3 := HS7.out.2.1.cell 3 _ rfl
        have z4 := HS7.out.2.1.cell 4 _ rfl
        have z5 := HS7.out.2.1.cell 5 _ rfl
        have z6 := HS7.out.2.1.cell 6 _ rfl
        have z7 := HS7.out.2.1.cell 7 _ rfl
        have z8 := HS7.out.2.1.cell 8 _ rfl
        have z9 := HS7.out.2.1.cell 9 _ rfl
        have z10 := HS7.out.2.1.cell 10 _ rfl
        have z11 := HS7.out.2.1.cell 11 _ rfl
        have z12 := HS7.out.2.1.cell 12 _ rfl
        obtain ⟨bq, hbq⟩ : ∃ bq, bq = (la == lb) := ⟨_, rfl⟩
        have hz : ((Bs la).toList == (Bs lb).toList) = bq := by rw [Bs_eq, hbq]
        have HBQ := Lib.hid hbq
        clear hbq
        go_wp2_with fail
        refine (same_is k cd t i c ask r0 r1 r2 r3 r4 r5 L A cap k' cd' t' i' c' ask' r0' r1' r2' r3' r4' r5' L' A' cap' (by have := HLL.out; omega) w7 HS7.out.2.2.2.1 HS7.out.2.2.2.2).mono ?_
        rintro e8 w8 ⟨b8, rfl, hi8, hb8⟩
        have HE9 := Lib.hid (Below.step HS7.out.2.2.1 hb8)
        clear hb8
        obtain rfl : b8 = bq := by
          rw [HBQ.out, Bool.eq_iff_iff, hi8, beq_iff_eq, HLA.out, HLB.out]
          exact ⟨fun e => by rw [e], fun e => line_inj HA.out HB.out e⟩
        clear hi8 hz HBQ
        cases b8 <;> (go_wp2_with fail; go_ret; exact ⟨rfl, HE9.out⟩)

end Go.Proofs.YtinciphhoieonaaDoor

/-
  Numbers, records and looks that may be told, any.
-/
import Derived.Test.YtinciphhoieonaaGreatDoorRows
import Derived.Test.YtinciphhoieonaaGreatDoorKit
import Derived.Test.YtinciphhoieonaaGreatDoorApp
import Derived.Test.YtinciphhoieonaaGreatDoorQuiet
import Derived.WalkKit
import Derived.ProofKit
import Derived.OpenShut
import Derived.ShutString
import Derived.Below
import Derived.Outline
import Derived.WalkLawsBesides
import Derived.WalkSpells
import Derived.Handy
import Derived.Deep.QuietTactic
import Derived.BigQuiet
import Derived.RegionTactic
import Derived.ChangeAlike
import Derived.Lib.Hide
import Derived.Laws.Rows
import Derived.Laws.Tables
import Derived.Laws.CopyOwn
import Derived.Laws.MakeOwn
import Derived.Laws.Entries
import Derived.Laws.OwnMore
import Derived.Deep.WholeRow
import Derived.Deep.LoopGhost
import Derived.Deep.AppendLies
import Derived.Deep.Draws
import Derived.Maps.AppendAt
import Derived.OwnWalk
import Derived.Deep.RegionHeld3
import Derived.Deep.Cut
import Derived.Deep.CutRange
import Derived.Deep.DeepCutAuto
import Derived.Deep.CutBlock
import Derived.Lib.SliceRun
import Derived.IntWalk
import Derived.Laws.Strings
import Derived.Lib.Bytealg
import Derived.Lib.Strings
import Derived.Laws.Externs
import Derived.Test.YtinciphhoieonaaGreatDoorAnB
import Derived.Deep.Slices
import Derived.Deep.Fields
import Derived.ChangeSame
import Derived.ChangeArms
import Derived.Deep.MidRow
import Derived.Deep.Upon
namespace Go.Proofs.YtinciphhoieonaaGreatDoor
open Go.ChangeShapes Go.WideShapes Go.ChangeAt Go.RowKit
/-- An answer that is yes just if P is. -/
def Bi (P : Prop) (e : Ending) : Prop := ∃ b : Bool, e = .returned (.bool b) ∧ (b = true ↔ P)
theorem Bi.t {P : Prop} (h : P) : Bi P (.returned (.bool true)) := ⟨true, rfl, fun _ => h, fun _ => rfl⟩
theorem Bi.f {P : Prop} (h : ¬ P) : Bi P (.returned (.bool false)) := ⟨false, rfl, (fun e => by cases e), fun p => absurd p h⟩
theorem number_any (g n cp : Nat) (xs : List Int) (hx : xs.length = n) (hn : n ≤ 100) (w : World) (hc : ∀ (i : Nat) (x : Int), xs[i]? = some x → w.cell? ⟨g, i, none⟩ = some (.int .i64 x)) : Calls Tryz.prog 26 #[.slice (some ⟨g, 0, none⟩) n cp] w fun e w' => Bi (∀ (i : Nat) (x : Int), xs[i]? = some x → 0 ≤ x ∧ x ≤ 9999999) e ∧ w = w' := by
  have HC := Lib.hid hc
  have HX := Lib.hid hx
  have n1 : (n : Int) ≤ 100 := by omega
  clear hc hx
  go_enter Tryz.func26, Tryz.ntmps26
  go_wp2_with fail
  go_loopw [7] (fun j wr => ∃ i : Nat, i ≤ n ∧ j = .int .i64 (i : Int) ∧ Hid (∀ (q : Nat) (x : Int), q < i → xs[q]? = some x → 0 ≤ x ∧ x ≤ 9999999) ∧ w = wr) (fun j _ => n + 1 - (intOf j).toNat)
  case atStart => exact ⟨0, Nat.zero_le _, rfl, Lib.hid (fun q x h => absurd h (by omega)), rfl⟩
  case round =>
    obtain ⟨i, hi, rfl, HM, rfl⟩ := hrel
    have i0 : (0 : Int) ≤ (i : Int) := by omega
    by_cases hlt : i < n
    · have hl : i < xs.length := by rw [HX.out]; exact hlt
      have hc := HC.out i xs[i] (List.getElem?_eq_getElem hl)
      obtain ⟨X, hX⟩ : ∃ X, X = xs[i] := ⟨_, rfl⟩
      have HXI : Hid (xs[i]? = some X) := Lib.hid (by rw [List.getElem?_eq_getElem hl, hX])
      rw [← hX] at hc
      have q1 : (i : Int) < (n : Int) := by omega
      have Hi := Lib.hid hlt
      clear hX hl hi
      by_cases h1 : X < 0
      · have H1 := Lib.hid h1
        have e1 : decide (X < 0) = true := decide_eq_true h1
        clear h1
        go_wp2_with fail
        go_ret
        exact ⟨Bi.f (fun h => absurd (h i X HXI.out).1 (by have := H1.out; omega)), rfl⟩
      · have H1 := Lib.hid h1
        have e1 : decide (X < 0) = false := decide_eq_false h1
        clear h1
        by_cases h2 : 9999999 < X
        · have H2 := Lib.hid h2
          have e2 : decide (9999999 < X) = true := decide_eq_true h2
          clear h2
          go_wp2_with fail
          go_ret
          exact ⟨Bi.f (fun h => absurd (h i X HXI.out).2 (by have := H2.out; omega)), rfl⟩
        · have H2 := Lib.hid h2
          have e2 : decide (9999999 < X) = false := decide_eq_false h2
          clear h2
          go_wp2_with fail
          go_roundw
          case rel =>
            refine ⟨i + 1, Hi.out, by go_num, Lib.hid (fun q x h3 h4 => ?_), by first | rfl | trivial⟩
            by_cases hq : q < i
            · exact HM.out q x hq h4
            · obtain rfl : q = i := by omega
              rw [HXI.out] at h4
              injection h4 with h4
              have o1 := H1.out
              have o2 := H2.out
              omega
          case measure => have := Hi.out; simp [intOf]; omega
    · obtain rfl : i = n := by omega
      have q5 : decide ((i : Int) < (i : Int)) = false := decide_eq_false (by omega)
      clear hi hlt
      go_wp2_with fail
      go_ret
      exact ⟨Bi.t (fun q x h => HM.out q x (by have := (List.getElem?_eq_some_iff.1 h).1; have := HX.out; omega) h), rfl⟩
theorem number_two (a b : Int) (w : World) : Calls Tryz.prog 26 #[.slice (some ⟨w.heap.size, 0, none⟩) 2 2] (w.alloc (.cells #[.int .i64 a, .int .i64 b] 3)) fun e w' => Bi ((0 ≤ a ∧ a ≤ 9999999) ∧ (0 ≤ b ∧ b ≤ 9999999)) e ∧ Below w.heap.size w w' := by
  have g : Below w.heap.size w (w.alloc (.cells #[.int .i64 a, .int .i64 b] 3)) := by go_grown
  have bl := Bl.new w [.int .i64 a, .int .i64 b] 3
  refine (number_any w.heap.size 2 2 [a, b] rfl (by decide) _ (fun i x hx => bl.cell i _ ?_)).mono ?_
  · have := congrArg (Option.map (Value.int .i64)) hx
    rw [← List.getElem?_map] at this
    exact this
  rintro e w' ⟨⟨v, rfl, hv⟩, rfl⟩
  refine ⟨⟨v, rfl, hv.trans ⟨fun h => ⟨h 0 a rfl, h 1 b rfl⟩, fun h i x hx => ?_⟩⟩, g⟩
  match i, hx with
  | 0, hx => cases hx; exact h.1
  | 1, hx => cases hx; exact h.2
  | i + 2, hx => simp at hx
theorem number_three (a b c : Int) (w : World) : Calls Tryz.prog 26 #[.slice (some ⟨w.heap.size, 0, none⟩) 3 3] (w.alloc (.cells #[.int .i64 a, .int .i64 b, .int .i64 c] 3)) fun e w' => Bi ((0 ≤ a ∧ a ≤ 9999999) ∧ (0 ≤ b ∧ b ≤ 9999999) ∧ (0 ≤ c ∧ c ≤ 9999999)) e ∧ Below w.heap.size w w' := by
  have g : Below w.heap.size w (w.alloc (.cells #[.int .i64 a, .int .i64 b, .int .i64 c] 3)) := by go_grown
  have bl := Bl.new w [.int .i64 a, .int .i64 b, .int .i64 c] 3
  refine (number_any w.heap.size 3 3 [a, b, c] rfl (by decide) _ (fun i x hx => bl.cell i _ ?_)).mono ?_
  · have := congrArg (Option.map (Value.int .i64)) hx
    rw [← List.getElem?_map] at this
    exact this
  rintro e w' ⟨⟨v, rfl, hv⟩, rfl⟩
  refine ⟨⟨v, rfl, hv.trans ⟨fun h => ⟨h 0 a rfl, h 1 b rfl, h 2 c rfl⟩, fun h i x hx => ?_⟩⟩, g⟩
  match i, hx with
  | 0, hx => cases hx; exact h.1
  | 1, hx => cases hx; exact h.2.1
  | 2, hx => cases hx; exact h.2.2
  | i + 3, hx => simp at hx
set_option maxRecDepth 100000 in
set_option maxHeartbeats 8000000 in
theorem rrec_any (r0 r1 r2 r3 r4 r5 : Int) (w : World) : Calls Tryz.prog 27 #[.agg #[.int .i64 r0, .int .i64 r1, .int .i64 r2, .int .i64 r3, .int .i64 r4, .int .i64 r5]] w fun e w' => Bi ((1 ≤ r0 ∧ r0 ≤ 5) ∧ (0 ≤ r1 ∧ r1 ≤ 9999999) ∧ (0 ≤ r2 ∧ r2 ≤ 9999999) ∧ (0 ≤ r3 ∧ r3 ≤ 9999999) ∧ r4 = 0 ∧ r5 = 0) e ∧ Below w.heap.size w w' := by
  have g : Below w.heap.size w (w.alloc (.cells #[.int .i64 r0, .int .i64 r1, .int .i64 r2, .int .i64 r3, .int .i64 r4, .int .i64 r5] 24)) := by go_grown
  have bl := Bl.new w [.int .i64 r0, .int .i64 r1, .int .i64 r2, .int .i64 r3, .int .i64 r4, .int .i64 r5] 24
  obtain ⟨W, hW⟩ : ∃ W, W = w.alloc (.cells #[.int .i64 r0, .int .i64 r1, .int .i64 r2, .int .i64 r3, .int .i64 r4, .int .i64 r5] 24) := ⟨_, rfl⟩
  obtain ⟨XB, hXB⟩ : ∃ XB, XB = w.heap.size := ⟨_, rfl⟩
  rw [← hW] at g bl
  rw [← hXB] at bl
  have HB := Lib.hid (And.intro bl g)
  have HWE := Lib.hid hW
  have HXE := Lib.hid hXB
  clear g bl hW hXB
  go_enter Tryz.func27, Tryz.ntmps27
  go_upto_region 1 with fail
  rw [← HWE.out, ← HXE.out]
  have y0 := HB.out.1.cell 0 _ rfl
  have y1 := HB.out.1.cell 1 _ rfl
  have y2 := HB.out.1.cell 2 _ rfl
  have y3 := HB.out.1.cell 3 _ rfl
  have y4 := HB.out.1.cell 4 _ rfl
  have y5 := HB.out.1.cell 5 _ rfl
  by_cases c1 : 1 ≤ r0
  · have G1 := Lib.hid c1
    clear c1
    have f1p0 : decide (1 ≤ r0) = true := decide_eq_true G1.out
    by_cases c2 : r0 ≤ 5
    · have G2 := Lib.hid c2
      clear c2
      have f2p0 : decide (r0 ≤ 5) = true := decide_eq_true G2.out
      go_wp2_with fail
      refine (number_three r1 r2 r3 W).mono ?_
      rintro e1 w1 ⟨⟨v, rfl, hv⟩, hb⟩
      have HB1 := Lib.hid (And.intro (HB.out.1.below hb) (Below.step HB.out.2 hb))
      have HV : Hid (v = true ↔ (0 ≤ r1 ∧ r1 ≤ 9999999) ∧ (0 ≤ r2 ∧ r2 ≤ 9999999) ∧ (0 ≤ r3 ∧ r3 ≤ 9999999)) := Lib.hid hv
      clear hv hb
      have z4 := HB1.out.1.cell 4 _ rfl
      have z5 := HB1.out.1.cell 5 _ rfl
      cases v with
      | false =>
        have HV2 : Hid (¬ ((0 ≤ r1 ∧ r1 ≤ 9999999) ∧ (0 ≤ r2 ∧ r2 ≤ 9999999) ∧ (0 ≤ r3 ∧ r3 ≤ 9999999))) := Lib.hid (fun h => by have := HV.out.2 h; cases this)
        go_wp2_with fail
        go_ret
        exact ⟨Bi.f (fun hP => by have o0 := HV2.out; omega), HB1.out.2⟩
      | true =>
        have HV2 := Lib.hid (HV.out.1 rfl)
        by_cases c3 : r4 = 0
        · have G3 := Lib.hid c3
          clear c3
          have f3p0 : (r4 == 0) = true := beq_iff_eq.2 G3.out
          have f3p1 : (r4 != 0) = false := by simp [G3.out]
          by_cases c4 : r5 = 0
          · have G4 := Lib.hid c4
            clear c4
            have f4p0 : (r5 == 0) = true := beq_iff_eq.2 G4.out
            have f4p1 : (r5 != 0) = false := by simp [G4.out]
            go_wp2_with fail
            go_ret
            exact ⟨Bi.t (by have o0 := G1.out; have o1 := G2.out; have o2 := HV2.out; have o3 := G3.out; have o4 := G4.out; omega), HB1.out.2⟩
          · have G4 := Lib.hid c4
            clear c4
            have f4n0 : (r5 == 0) = false := beq_eq_false_iff_ne.2 G4.out
            have f4n1 : (r5 != 0) = true := bne_iff_ne.2 G4.out
            go_wp2_with fail
            go_ret
            exact ⟨Bi.f (fun hP => by have o0 := G4.out; omega), HB1.out.2⟩
        · have G3 := Lib.hid c3
          clear c3
          have f3n0 : (r4 == 0) = false := beq_eq_false_iff_ne.2 G3.out
          have f3n1 : (r4 != 0) = true := bne_iff_ne.2 G3.out
          go_wp2_with fail
          go_ret
          exact ⟨Bi.f (fun hP => by have o0 := G3.out; omega), HB1.out.2⟩
    · have G2 := Lib.hid c2
      clear c2
      have f2n0 : decide (r0 ≤ 5) = false := decide_eq_false G2.out
      go_wp2_with fail
      go_ret
      exact ⟨Bi.f (fun hP => by have o0 := G2.out; omega), HB.out.2⟩
  · have G1 := Lib.hid c1
    clear c1
    have f1n0 : decide (1 ≤ r0) = false := decide_eq_false G1.out
    go_wp2_with fail
    go_ret
    exact ⟨Bi.f (fun hP => by have o0 := G1.out; omega), HB.out.2⟩
set_option maxRecDepth 100000 in
set_option maxHeartbeats 8000000 in
theorem rlooks_any (A : Option Addr) (L : List Lk) (cap : Nat) (hl : L.length ≤ 1000) (w : World) (hL : LkAt A L w) : Calls Tryz.prog 28 #[.slice A L.length cap] w fun e w' => Bi (∀ x ∈ L, lkR x = true) e ∧ Below w.heap.size w w' := by
  have HLK := Lib.hid hL
  have n1 : (L.length : Int) ≤ 1000 := by omega
  clear hL hl
  go_enter Tryz.func28, Tryz.ntmps28
  go_wp2_with fail
  go_loopw [8] (fun j wr => ∃ n : Nat, n ≤ L.length ∧ j = .int .i64 (n : Int) ∧ Hid ((∀ (q : Nat) (x : Lk), q < n → L[q]? = some x → lkR x = true) ∧ Below w.heap.size w wr)) (fun j _ => L.length + 1 - (intOf j).toNat)
  case atStart => exact ⟨0, Nat.zero_le _, rfl, Lib.hid ⟨fun q x h => absurd h (by omega), Below.refl _ _⟩⟩
  case round =>
    obtain ⟨n, hn, rfl, HM⟩ := hrel
    have i0 : (0 : Int) ≤ (n : Int) := by omega
    by_cases hlt : n < L.length
    · obtain ⟨x, hx⟩ : ∃ x, L[n]? = some x := ⟨_, List.getElem?_eq_getElem hlt⟩
      obtain ⟨ad, hA, hb, hc⟩ := (HLK.out.below HM.out.2) (by omega)
      obtain ⟨d0, d1', d2'⟩ := hc n _ hx
      subst hA
      obtain ⟨xk, xl, xf⟩ := x
      simp only at d0 d1' d2'
      have d1 : wr.cell? ⟨(ad.add (n * 3)).block, (ad.add (n * 3)).off + 1, none⟩ = some (.int .i64 xl) := by
        rw [← addp _ 1 (by decide) (World.cell?_spot d0), add_of_add]; exact d1'
      have d2 : wr.cell? ⟨(ad.add (n * 3)).block, (ad.add (n * 3)).off + 2, none⟩ = some (.int .i64 xf) := by
        rw [← addp _ 2 (by decide) (World.cell?_spot d0), add_of_add]; exact d2'
      have q1 : (n : Int) < (L.length : Int) := by omega
      have Hi := Lib.hid hlt
      have HX := Lib.hid hx
      have gA : Below wr.heap.size wr (wr.alloc (.cells (List.toArray [.int .i64 xk, .int .i64 xl, .int .i64 xf]) 54)) := by go_grown
      have bA := Bl.new wr [.int .i64 xk, .int .i64 xl, .int .i64 xf] 54
      obtain ⟨WL, hWL⟩ : ∃ WL, WL = (wr.alloc (.cells (List.toArray [.int .i64 xk, .int .i64 xl, .int .i64 xf]) 54)) := ⟨_, rfl⟩
      obtain ⟨LB, hLB⟩ : ∃ LB, LB = wr.heap.size := ⟨_, rfl⟩
      rw [← hWL] at gA bA
      rw [← hLB] at bA
      have HG := Lib.hid (Below.step HM.out.2 gA)
      have HLB := Lib.hid bA
      have HWE := Lib.hid hWL
      have HLE := Lib.hid hLB
      clear hx hb hc d1' d2' hlt hn gA bA hWL hLB
      go_upto_region 4 with fail
      rw [← HWE.out, ← HLE.out]
      clear d0 d1 d2
      have z0 := HLB.out.cell 0 _ rfl
      have z1 := HLB.out.cell 1 _ rfl
      have z2 := HLB.out.cell 2 _ rfl
      by_cases c5 : xk = 0
      · have G5 := Lib.hid c5
        clear c5
        have f5p0 : (xk == 0) = true := beq_iff_eq.2 G5.out
        have f5p1 : (xk != 0) = false := by simp [G5.out]
        go_wp2_with fail
        refine (number_two xl xf WL).mono ?_
        rintro e1 w1 ⟨⟨v, rfl, hv⟩, hb⟩
        have HB1 := Lib.hid (Below.step HG.out hb)
        have HV : Hid (v = true ↔ (0 ≤ xl ∧ xl ≤ 9999999) ∧ (0 ≤ xf ∧ xf ≤ 9999999)) := Lib.hid hv
        clear hv hb
        cases v with
        | false =>
          have HV2 : Hid (¬ ((0 ≤ xl ∧ xl ≤ 9999999) ∧ (0 ≤ xf ∧ xf ≤ 9999999))) := Lib.hid (fun h => by have := HV.out.2 h; cases this)
          go_wp2_with fail
          go_ret
          exact ⟨Bi.f (fun hP => by have h1 := HX.out; have h2 := hP _ (List.mem_of_getElem? h1); unfold lkR mostB at h2; simp at h2; have o0 := HV2.out; omega), HB1.out⟩
        | true =>
          have HV2 := Lib.hid (HV.out.1 rfl)
          go_wp2_with fail
          go_roundw
          case rel =>
            refine ⟨n + 1, Hi.out, by go_num, Lib.hid ⟨fun q x h1 h2 => ?_, HB1.out⟩⟩
            by_cases hq : q < n
            · exact HM.out.1 q x hq h2
            · obtain rfl : q = n := by omega
              rw [HX.out] at h2
              injection h2 with h2
              subst h2
              unfold lkR mostB
              simp
              have o0 := G5.out; have o1 := HV2.out
              omega
          case measure => have := Hi.out; simp [intOf]; omega
      · have G5 := Lib.hid c5
        clear c5
        have f5n0 : (xk == 0) = false := beq_eq_false_iff_ne.2 G5.out
        have f5n1 : (xk != 0) = true := bne_iff_ne.2 G5.out
        by_cases c6 : xk = 1
        · have G6 := Lib.hid c6
          clear c6
          have f6p0 : (xk == 1) = true := beq_iff_eq.2 G6.out
          have f6p1 : (xk != 1) = false := by simp [G6.out]
          go_wp2_with fail
          refine (number_two xl xf WL).mono ?_
          rintro e1 w1 ⟨⟨v, rfl, hv⟩, hb⟩
          have HB1 := Lib.hid (Below.step HG.out hb)
          have HV : Hid (v = true ↔ (0 ≤ xl ∧ xl ≤ 9999999) ∧ (0 ≤ xf ∧ xf ≤ 9999999)) := Lib.hid hv
          clear hv hb
          cases v with
          | false =>
            have HV2 : Hid (¬ ((0 ≤ xl ∧ xl ≤ 9999999) ∧ (0 ≤ xf ∧ xf ≤ 9999999))) := Lib.hid (fun h => by have := HV.out.2 h; cases this)
            go_wp2_with fail
            go_ret
            exact ⟨Bi.f (fun hP => by have h1 := HX.out; have h2 := hP _ (List.mem_of_getElem? h1); unfold lkR mostB at h2; simp at h2; have o0 := HV2.out; omega), HB1.out⟩
          | true =>
            have HV2 := Lib.hid (HV.out.1 rfl)
            go_wp2_with fail
            go_roundw
            case rel =>
              refine ⟨n + 1, Hi.out, by go_num, Lib.hid ⟨fun q x h1 h2 => ?_, HB1.out⟩⟩
              by_cases hq : q < n
              · exact HM.out.1 q x hq h2
              · obtain rfl : q = n := by omega
                rw [HX.out] at h2
                injection h2 with h2
                subst h2
                unfold lkR mostB
                simp
                have o0 := G6.out; have o1 := HV2.out
                omega
            case measure => have := Hi.out; simp [intOf]; omega
        · have G6 := Lib.hid c6
          clear c6
          have f6n0 : (xk == 1) = false := beq_eq_false_iff_ne.2 G6.out
          have f6n1 : (xk != 1) = true := bne_iff_ne.2 G6.out
          by_cases c7 : 5 ≤ xk
          · have G7 := Lib.hid c7
            clear c7
            have f7p0 : decide (5 ≤ xk) = true := decide_eq_true G7.out
            by_cases c8 : xk ≤ 8
            · have G8 := Lib.hid c8
              clear c8
              have f8p0 : decide (xk ≤ 8) = true := decide_eq_true G8.out
              go_wp2_with fail
              refine (number_two xl xf WL).mono ?_
              rintro e1 w1 ⟨⟨v, rfl, hv⟩, hb⟩
              have HB1 := Lib.hid (Below.step HG.out hb)
              have HV : Hid (v = true ↔ (0 ≤ xl ∧ xl ≤ 9999999) ∧ (0 ≤ xf ∧ xf ≤ 9999999)) := Lib.hid hv
              clear hv hb
              cases v with
              | false =>
                have HV2 : Hid (¬ ((0 ≤ xl ∧ xl ≤ 9999999) ∧ (0 ≤ xf ∧ xf ≤ 9999999))) := Lib.hid (fun h => by have := HV.out.2 h; cases this)
                go_wp2_with fail
                go_ret
                exact ⟨Bi.f (fun hP => by have h1 := HX.out; have h2 := hP _ (List.mem_of_getElem? h1); unfold lkR mostB at h2; simp at h2; have o0 := HV2.out; omega), HB1.out⟩
              | true =>
                have HV2 := Lib.hid (HV.out.1 rfl)
                go_wp2_with fail
                go_roundw
                case rel =>
                  refine ⟨n + 1, Hi.out, by go_num, Lib.hid ⟨fun q x h1 h2 => ?_, HB1.out⟩⟩
                  by_cases hq : q < n
                  · exact HM.out.1 q x hq h2
                  · obtain rfl : q = n := by omega
                    rw [HX.out] at h2
                    injection h2 with h2
                    subst h2
                    unfold lkR mostB
                    simp
                    have o0 := G7.out; have o1 := G8.out; have o2 := HV2.out
                    omega
                case measure => have := Hi.out; simp [intOf]; omega
            · have G8 := Lib.hid c8
              clear c8
              have f8n0 : decide (xk ≤ 8) = false := decide_eq_false G8.out
              go_wp2_with fail
              go_ret
              exact ⟨Bi.f (fun hP => by have h1 := HX.out; have h2 := hP _ (List.mem_of_getElem? h1); unfold lkR mostB at h2; simp at h2; have o0 := G5.out; have o1 := G6.out; have o2 := G8.out; omega), HG.out⟩
          · have G7 := Lib.hid c7
            clear c7
            have f7n0 : decide (5 ≤ xk) = false := decide_eq_false G7.out
            go_wp2_with fail
            go_ret
            exact ⟨Bi.f (fun hP => by have h1 := HX.out; have h2 := hP _ (List.mem_of_getElem? h1); unfold lkR mostB at h2; simp at h2; have o0 := G5.out; have o1 := G6.out; have o2 := G7.out; omega), HG.out⟩
    · obtain rfl : n = L.length := by omega
      have q5 : decide ((L.length : Int) < (L.length : Int)) = false := decide_eq_false (by omega)
      clear hn hlt
      go_wp2_with fail
      go_ret
      refine ⟨Bi.t (fun x hx => ?_), HM.out.2⟩
      obtain ⟨q, hq, e⟩ := List.getElem_of_mem hx
      exact HM.out.1 q x hq (by rw [List.getElem?_eq_getElem hq, e])

end Go.Proofs.YtinciphhoieonaaGreatDoor

/-
  Right of any reply.
-/
import Derived.Test.YtinciphhoieonaaGreatDoorRows
import Derived.Test.YtinciphhoieonaaGreatDoorKit
import Derived.Test.YtinciphhoieonaaGreatDoorApp
import Derived.Test.YtinciphhoieonaaGreatDoorQuiet
import Derived.WalkKit
import Derived.ProofKit
import Derived.OpenShut
import Derived.ShutString
import Derived.Below
import Derived.Outline
import Derived.WalkLawsBesides
import Derived.WalkSpells
import Derived.Handy
import Derived.Deep.QuietTactic
import Derived.BigQuiet
import Derived.RegionTactic
import Derived.ChangeAlike
import Derived.Lib.Hide
import Derived.Laws.Rows
import Derived.Laws.Tables
import Derived.Laws.CopyOwn
import Derived.Laws.MakeOwn
import Derived.Laws.Entries
import Derived.Laws.OwnMore
import Derived.Deep.WholeRow
import Derived.Deep.LoopGhost
import Derived.Deep.AppendLies
import Derived.Deep.Draws
import Derived.Maps.AppendAt
import Derived.OwnWalk
import Derived.Deep.RegionHeld3
import Derived.Deep.Cut
import Derived.Deep.CutRange
import Derived.Deep.DeepCutAuto
import Derived.Deep.CutBlock
import Derived.Lib.SliceRun
import Derived.IntWalk
import Derived.Laws.Strings
import Derived.Lib.Bytealg
import Derived.Lib.Strings
import Derived.Laws.Externs
import Derived.Test.YtinciphhoieonaaGreatDoorAnRa
import Derived.Test.YtinciphhoieonaaGreatDoorAnXi
namespace Go.Proofs.YtinciphhoieonaaGreatDoor
open Go.ChangeShapes Go.WideShapes Go.ChangeAt Go.RowKit
theorem rt_iff {k cd t i c : Int} {ask : Bool} {r0 r1 r2 r3 r4 r5 : Int} {L : List Lk} : Rt ⟨k, cd, t, i, c, ask, r0, r1, r2, r3, r4, r5, L⟩ ↔ (((1 ≤ k ∧ k ≤ 4) ∧ (0 ≤ t ∧ t ≤ 1000000) ∧ 0 ≤ cd ∧ (0 ≤ i ∧ i ≤ 9999999) ∧ (0 ≤ c ∧ c ≤ 9999999)) ∧ ((i = 0 ∨ (k ≠ 3 ∧ k ≠ 4)) ∧ (c = 0 ∨ k ≠ 4)) ∧ (ask = false ∨ (k = 2 ∧ cd = 0)) ∧ ((r0 = 0 ∧ r1 = 0 ∧ r2 = 0 ∧ r3 = 0 ∧ r4 = 0 ∧ r5 = 0) ∨ (k = 3 ∧ cd = 0 ∧ (1 ≤ r0 ∧ r0 ≤ 5) ∧ (0 ≤ r1 ∧ r1 ≤ 9999999) ∧ (0 ≤ r2 ∧ r2 ≤ 9999999) ∧ (0 ≤ r3 ∧ r3 ≤ 9999999) ∧ r4 = 0 ∧ r5 = 0)) ∧ (L = [] ∨ (k = 4 ∧ cd = 0 ∧ ∀ x ∈ L, lkR x = true))) := by
  constructor
  · intro h
    have h1 : 1 ≤ k ∧ k ≤ 4 := h.k
    have h2 : 0 ≤ t ∧ t ≤ 1000000 := h.t
    have h3 : 0 ≤ cd := h.cd
    have h4 : 0 ≤ i ∧ i ≤ 9999999 := h.i
    have h5 : 0 ≤ c ∧ c ≤ 9999999 := h.c
    have h6 : i ≠ 0 → k ≤ 2 := h.i3
    have h7 : c ≠ 0 → k ≤ 3 := h.c4
    refine ⟨by omega, by omega, ?_, h.recs, h.look⟩
    cases ask with
    | false => exact Or.inl rfl
    | true => exact Or.inr (h.ask rfl)
  · rintro ⟨h1, h3, h5, h7, h9⟩
    refine ⟨h1.1, h1.2.1, h1.2.2.1, h1.2.2.2.1, h1.2.2.2.2, ?_, ?_, ?_, ?_, h9⟩
    · intro h
      have h' : i ≠ 0 := h
      show k ≤ 2
      omega
    · intro h
      have h' : c ≠ 0 := h
      show k ≤ 3
      omega
    · intro h
      rcases h5 with e | e
      · have h' : ask = true := h
        rw [e] at h'
        cases h'
      · exact e
    · rcases h7 with h | h
      · left
        obtain ⟨rfl, rfl, rfl, rfl, rfl, rfl⟩ := h
        rfl
      · right
        refine ⟨h.1, h.2.1, ?_⟩
        unfold recR mostB
        simp
        omega
set_option maxRecDepth 100000 in
set_option maxHeartbeats 8000000 in
theorem right_any (k cd t i c : Int) (ask : Bool) (r0 r1 r2 r3 r4 r5 : Int) (L : List Lk) (A : Option Addr) (cap : Nat) (hl : L.length ≤ 1000) (w : World) (hL : LkAt A L w) : Calls Tryz.prog 9 #[.agg (List.toArray [.int .i64 k, .int .i64 cd, .int .i64 t, .int .i64 i, .int .i64 c, .bool ask, .int .i64 r0, .int .i64 r1, .int .i64 r2, .int .i64 r3, .int .i64 r4, .int .i64 r5, .slice A L.length cap])] w fun e w' => Bi (Rt ⟨k, cd, t, i, c, ask, r0, r1, r2, r3, r4, r5, L⟩) e ∧ Below w.heap.size w w' := by
  have bR := Bl.new w [.int .i64 k, .int .i64 cd, .int .i64 t, .int .i64 i, .int .i64 c, .bool ask, .int .i64 r0, .int .i64 r1, .int .i64 r2, .int .i64 r3, .int .i64 r4, .int .i64 r5, .slice A L.length cap] 27
  have gB : Below w.heap.size w (w.alloc (.cells (List.toArray [.int .i64 k, .int .i64 cd, .int .i64 t, .int .i64 i, .int .i64 c, .bool ask, .int .i64 r0, .int .i64 r1, .int .i64 r2, .int .i64 r3, .int .i64 r4, .int .i64 r5, .slice A L.length cap]) 27)) := by go_grown
  obtain ⟨W, hW⟩ : ∃ W, W = w.alloc (.cells (List.toArray [.int .i64 k, .int .i64 cd, .int .i64 t, .int .i64 i, .int .i64 c, .bool ask, .int .i64 r0, .int .i64 r1, .int .i64 r2, .int .i64 r3, .int .i64 r4, .int .i64 r5, .slice A L.length cap]) 27) := ⟨_, rfl⟩
  obtain ⟨RB, hRB⟩ : ∃ RB, RB = w.heap.size := ⟨_, rfl⟩
  rw [← hW] at bR gB
  rw [← hRB] at bR
  have HB : Hid (Bl RB [.int .i64 k, .int .i64 cd, .int .i64 t, .int .i64 i, .int .i64 c, .bool ask, .int .i64 r0, .int .i64 r1, .int .i64 r2, .int .i64 r3, .int .i64 r4, .int .i64 r5, .slice A L.length cap] W ∧ Below w.heap.size w W) := Lib.hid ⟨bR, gB⟩
  have HWE := Lib.hid hW
  have HRE := Lib.hid hRB
  have HLK := Lib.hid hL
  have HLL := Lib.hid hl
  have n1 : (L.length : Int) ≤ 1000 := by omega
  clear bR gB hW hRB hL hl
  go_enter Tryz.func9, Tryz.ntmps9
  go_upto_region 1 with fail
  rw [← HWE.out, ← HRE.out]
  have y0 := HB.out.1.cell 0 _ rfl
  have y1 := HB.out.1.cell 1 _ rfl
  have y2 := HB.out.1.cell 2 _ rfl
  have y3 := HB.out.1.cell 3 _ rfl
  have y4 := HB.out.1.cell 4 _ rfl
  have y5 := HB.out.1.cell 5 _ rfl
  go_cut [34] (fun s wx => ((s = .bool true ∧ Hid (¬ ((1 ≤ k ∧ k ≤ 4) ∧ (0 ≤ t ∧ t ≤ 1000000) ∧ 0 ≤ cd ∧ (0 ≤ i ∧ i ≤ 9999999) ∧ (0 ≤ c ∧ c ≤ 9999999)))) ∨ (s = .bool false ∧ Hid ((1 ≤ k ∧ k ≤ 4) ∧ (0 ≤ t ∧ t ≤ 1000000) ∧ 0 ≤ cd ∧ (0 ≤ i ∧ i ≤ 9999999) ∧ (0 ≤ c ∧ c ≤ 9999999)))) ∧ Hid (Bl RB [.int .i64 k, .int .i64 cd, .int .i64 t, .int .i64 i, .int .i64 c, .bool ask, .int .i64 r0, .int .i64 r1, .int .i64 r2, .int .i64 r3, .int .i64 r4, .int .i64 r5, .slice A L.length cap] wx ∧ Below w.heap.size w wx))
  case first =>
    as_aux_lemma =>
      by_cases c9 : k < 1
      · have G9 := Lib.hid c9
        clear c9
        have f9p0 : decide (k < 1) = true := decide_eq_true G9.out
        go_wp2_with fail
        go_meet
        case rel => exact ⟨Or.inl ⟨rfl, Lib.hid (fun hP => by have o0 := G9.out; omega)⟩, HB⟩
      · have G9 := Lib.hid c9
        clear c9
        have f9n0 : decide (k < 1) = false := decide_eq_false G9.out
        by_cases c10 : 4 < k
        · have G10 := Lib.hid c10
          clear c10
          have f10p0 : decide (4 < k) = true := decide_eq_true G10.out
          go_wp2_with fail
          go_meet
          case rel => exact ⟨Or.inl ⟨rfl, Lib.hid (fun hP => by have o0 := G10.out; omega)⟩, HB⟩
        · have G10 := Lib.hid c10
          clear c10
          have f10n0 : decide (4 < k) = false := decide_eq_false G10.out
          by_cases c11 : t < 0
          · have G11 := Lib.hid c11
            clear c11
            have f11p0 : decide (t < 0) = true := decide_eq_true G11.out
            go_wp2_with fail
            go_meet
            case rel => exact ⟨Or.inl ⟨rfl, Lib.hid (fun hP => by have o0 := G11.out; omega)⟩, HB⟩
          · have G11 := Lib.hid c11
            clear c11
            have f11n0 : decide (t < 0) = false := decide_eq_false G11.out
            by_cases c12 : 1000000 < t
            · have G12 := Lib.hid c12
              clear c12
              have f12p0 : decide (1000000 < t) = true := decide_eq_true G12.out
              go_wp2_with fail
              go_meet
              case rel => exact ⟨Or.inl ⟨rfl, Lib.hid (fun hP => by have o0 := G12.out; omega)⟩, HB⟩
            · have G12 := Lib.hid c12
              clear c12
              have f12n0 : decide (1000000 < t) = false := decide_eq_false G12.out
              by_cases c13 : cd < 0
              · have G13 := Lib.hid c13
                clear c13
                have f13p0 : decide (cd < 0) = true := decide_eq_true G13.out
                go_wp2_with fail
                go_meet
                case rel => exact ⟨Or.inl ⟨rfl, Lib.hid (fun hP => by have o0 := G13.out; omega)⟩, HB⟩
              · have G13 := Lib.hid c13
                clear c13
                have f13n0 : decide (cd < 0) = false := decide_eq_false G13.out
                go_wp2_with fail
                refine (number_two i c W).mono ?_
                rintro e1 w1 ⟨⟨v, rfl, hv⟩, hb⟩
                have HB1 : Hid (Bl RB [.int .i64 k, .int .i64 cd, .int .i64 t, .int .i64 i, .int .i64 c, .bool ask, .int .i64 r0, .int .i64 r1, .int .i64 r2, .int .i64 r3, .int .i64 r4, .int .i64 r5, .slice A L.length cap] w1 ∧ Below w.heap.size w w1) := Lib.hid ⟨HB.out.1.below hb, Below.step HB.out.2 hb⟩
                have HV : Hid (v = true ↔ (0 ≤ i ∧ i ≤ 9999999) ∧ (0 ≤ c ∧ c ≤ 9999999)) := Lib.hid hv
                clear hv hb
                cases v with
                | false =>
                  have HV2 : Hid (¬ ((0 ≤ i ∧ i ≤ 9999999) ∧ (0 ≤ c ∧ c ≤ 9999999))) := Lib.hid (fun h => by have := HV.out.2 h; cases this)
                  go_wp2_with fail
                  go_meet
                  case rel => exact ⟨Or.inl ⟨rfl, Lib.hid (fun hP => by have o0 := HV2.out; omega)⟩, HB1⟩
                | true =>
                  have HV2 := Lib.hid (HV.out.1 rfl)
                  go_wp2_with fail
                  go_meet
                  case rel => exact ⟨Or.inr ⟨rfl, Lib.hid (by have o0 := G9.out; have o1 := G10.out; have o2 := G11.out; have o3 := G12.out; have o4 := G13.out; have o5 := HV2.out; omega)⟩, HB1⟩
  case rest =>
    obtain ⟨hs, HB⟩ := hcut
    rcases hs with ⟨rfl, HN⟩ | ⟨rfl, Q1⟩
    · go_wp2_with fail
      go_ret
      exact ⟨Bi.f (fun h => HN.out (rt_iff.1 h).1), HB.out.2⟩
    · clear y0 y1 y2 y3 y4 y5
      go_upto_region 3 with fail
      have y0 := HB.out.1.cell 0 _ rfl
      have y3 := HB.out.1.cell 3 _ rfl
      have y4 := HB.out.1.cell 4 _ rfl
      go_cut [57] (fun s wx => ((s = .bool true ∧ Hid (¬ ((i = 0 ∨ (k ≠ 3 ∧ k ≠ 4)) ∧ (c = 0 ∨ k ≠ 4)))) ∨ (s = .bool false ∧ Hid ((i = 0 ∨ (k ≠ 3 ∧ k ≠ 4)) ∧ (c = 0 ∨ k ≠ 4)))) ∧ Hid (Bl RB [.int .i64 k, .int .i64 cd, .int .i64 t, .int .i64 i, .int .i64 c, .bool ask, .int .i64 r0, .int .i64 r1, .int .i64 r2, .int .i64 r3, .int .i64 r4, .int .i64 r5, .slice A L.length cap] wx ∧ Below w.heap.size w wx))
      case first =>
        as_aux_lemma =>
          by_cases c14 : i = 0
          · have G14 := Lib.hid c14
            clear c14
            have f14p0 : (i == 0) = true := beq_iff_eq.2 G14.out
            have f14p1 : (i != 0) = false := by simp [G14.out]
            by_cases c15 : c = 0
            · have G15 := Lib.hid c15
              clear c15
              have f15p0 : (c == 0) = true := beq_iff_eq.2 G15.out
              have f15p1 : (c != 0) = false := by simp [G15.out]
              go_wp2_with fail
              go_meet
              case rel => exact ⟨Or.inr ⟨rfl, Lib.hid (by have o0 := G14.out; have o1 := G15.out; omega)⟩, HB⟩
            · have G15 := Lib.hid c15
              clear c15
              have f15n0 : (c == 0) = false := beq_eq_false_iff_ne.2 G15.out
              have f15n1 : (c != 0) = true := bne_iff_ne.2 G15.out
              by_cases c16 : k = 4
              · have G16 := Lib.hid c16
                clear c16
                have f16p0 : (k == 4) = true := beq_iff_eq.2 G16.out
                have f16p1 : (k != 4) = false := by simp [G16.out]
                go_wp2_with fail
                go_meet
                case rel => exact ⟨Or.inl ⟨rfl, Lib.hid (fun hP => by have o0 := G15.out; have o1 := G16.out; omega)⟩, HB⟩
              · have G16 := Lib.hid c16
                clear c16
                have f16n0 : (k == 4) = false := beq_eq_false_iff_ne.2 G16.out
                have f16n1 : (k != 4) = true := bne_iff_ne.2 G16.out
                go_wp2_with fail
                go_meet
                case rel => exact ⟨Or.inr ⟨rfl, Lib.hid (by have o0 := G14.out; have o1 := G16.out; omega)⟩, HB⟩
          · have G14 := Lib.hid c14
            clear c14
            have f14n0 : (i == 0) = false := beq_eq_false_iff_ne.2 G14.out
            have f14n1 : (i != 0) = true := bne_iff_ne.2 G14.out
            by_cases c17 : k = 3
            · have G17 := Lib.hid c17
              clear c17
              have f17p0 : (k == 3) = true := beq_iff_eq.2 G17.out
              have f17p1 : (k != 3) = false := by simp [G17.out]
              go_wp2_with fail
              go_meet
              case rel => exact ⟨Or.inl ⟨rfl, Lib.hid (fun hP => by have o0 := G14.out; have o1 := G17.out; omega)⟩, HB⟩
            · have G17 := Lib.hid c17
              clear c17
              have f17n0 : (k == 3) = false := beq_eq_false_iff_ne.2 G17.out
              have f17n1 : (k != 3) = true := bne_iff_ne.2 G17.out
              by_cases c18 : k = 4
              · have G18 := Lib.hid c18
                clear c18
                have f18p0 : (k == 4) = true := beq_iff_eq.2 G18.out
                have f18p1 : (k != 4) = false := by simp [G18.out]
                go_wp2_with fail
                go_meet
                case rel => exact ⟨Or.inl ⟨rfl, Lib.hid (fun hP => by have o0 := G14.out; have o1 := G18.out; omega)⟩, HB⟩
              · have G18 := Lib.hid c18
                clear c18
                have f18n0 : (k == 4) = false := beq_eq_false_iff_ne.2 G18.out
                have f18n1 : (k != 4) = true := bne_iff_ne.2 G18.out
                by_cases c19 : c = 0
                · have G19 := Lib.hid c19
                  clear c19
                  have f19p0 : (c == 0) = true := beq_iff_eq.2 G19.out
                  have f19p1 : (c != 0) = false := by simp [G19.out]
                  go_wp2_with fail
                  go_meet
                  case rel => exact ⟨Or.inr ⟨rfl, Lib.hid (by have o0 := G17.out; have o1 := G18.out; have o2 := G19.out; omega)⟩, HB⟩
                · have G19 := Lib.hid c19
                  clear c19
                  have f19n0 : (c == 0) = false := beq_eq_false_iff_ne.2 G19.out
                  have f19n1 : (c != 0) = true := bne_iff_ne.2 G19.out
                  go_wp2_with fail
                  go_meet
                  case rel => exact ⟨Or.inr ⟨rfl, Lib.hid (by have o0 := G17.out; have o1 := G18.out; omega)⟩, HB⟩
      case rest =>
        clear y0 y3 y4
        obtain ⟨hs, HB⟩ := hcut
        rcases hs with ⟨rfl, HN⟩ | ⟨rfl, Q3⟩
        · go_wp2_with fail
          go_ret
          exact ⟨Bi.f (fun h => HN.out (rt_iff.1 h).2.1), HB.out.2⟩
        · go_upto_region 5 with fail
          have y0 := HB.out.1.cell 0 _ rfl
          have y1 := HB.out.1.cell 1 _ rfl
          have y5 := HB.out.1.cell 5 _ rfl
          go_cut [69] (fun s wx => ((s = .bool true ∧ Hid (¬ (ask = false ∨ (k = 2 ∧ cd = 0)))) ∨ (s = .bool false ∧ Hid (ask = false ∨ (k = 2 ∧ cd = 0)))) ∧ Hid (Bl RB [.int .i64 k, .int .i64 cd, .int .i64 t, .int .i64 i, .int .i64 c, .bool ask, .int .i64 r0, .int .i64 r1, .int .i64 r2, .int .i64 r3, .int .i64 r4, .int .i64 r5, .slice A L.length cap] wx ∧ Below w.heap.size w wx))
          case first =>
            as_aux_lemma =>
              cases ask with
              | false =>
                go_wp2_with fail
                go_meet
                case rel => exact ⟨Or.inr ⟨rfl, Lib.hid (by first | exact Or.inl trivial | exact Or.inl rfl | trivial)⟩, HB⟩
              | true =>
                by_cases c20 : k = 2
                · have G20 := Lib.hid c20
                  clear c20
                  have f20p0 : (k == 2) = true := beq_iff_eq.2 G20.out
                  have f20p1 : (k != 2) = false := by simp [G20.out]
                  by_cases c21 : cd = 0
                  · have G21 := Lib.hid c21
                    clear c21
                    have f21p0 : (cd == 0) = true := beq_iff_eq.2 G21.out
                    have f21p1 : (cd != 0) = false := by simp [G21.out]
                    go_wp2_with fail
                    go_meet
                    case rel => exact ⟨Or.inr ⟨rfl, Lib.hid (Or.inr ⟨G20.out, G21.out⟩)⟩, HB⟩
                  · have G21 := Lib.hid c21
                    clear c21
                    have f21n0 : (cd == 0) = false := beq_eq_false_iff_ne.2 G21.out
                    have f21n1 : (cd != 0) = true := bne_iff_ne.2 G21.out
                    go_wp2_with fail
                    go_meet
                    case rel => exact ⟨Or.inl ⟨rfl, Lib.hid (fun hP => hP.elim (fun e => by cases e) (fun e => G21.out e.2))⟩, HB⟩
                · have G20 := Lib.hid c20
                  clear c20
                  have f20n0 : (k == 2) = false := beq_eq_false_iff_ne.2 G20.out
                  have f20n1 : (k != 2) = true := bne_iff_ne.2 G20.out
                  go_wp2_with fail
                  go_meet
                  case rel => exact ⟨Or.inl ⟨rfl, Lib.hid (fun hP => hP.elim (fun e => by cases e) (fun e => G20.out e.1))⟩, HB⟩
          case rest =>
            clear y0 y1 y5
            obtain ⟨hs, HB⟩ := hcut
            rcases hs with ⟨rfl, HN⟩ | ⟨rfl, Q5⟩
            · go_wp2_with fail
              go_ret
              exact ⟨Bi.f (fun h => HN.out (rt_iff.1 h).2.2.1), HB.out.2⟩
            · go_upto_region 7 with fail
              have y0 := HB.out.1.cell 0 _ rfl
              have y1 := HB.out.1.cell 1 _ rfl
              have y6 := HB.out.1.cell 6 _ rfl
              have y7 := HB.out.1.cell 7 _ rfl
              have y8 := HB.out.1.cell 8 _ rfl
              have y9 := HB.out.1.cell 9 _ rfl
              have y10 := HB.out.1.cell 10 _ rfl
              have y11 := HB.out.1.cell 11 _ rfl
              go_cut [89] (fun s wx => ((s = .bool true ∧ Hid (¬ ((r0 = 0 ∧ r1 = 0 ∧ r2 = 0 ∧ r3 = 0 ∧ r4 = 0 ∧ r5 = 0) ∨ (k = 3 ∧ cd = 0 ∧ (1 ≤ r0 ∧ r0 ≤ 5) ∧ (0 ≤ r1 ∧ r1 ≤ 9999999) ∧ (0 ≤ r2 ∧ r2 ≤ 9999999) ∧ (0 ≤ r3 ∧ r3 ≤ 9999999) ∧ r4 = 0 ∧ r5 = 0)))) ∨ (s = .bool false ∧ Hid ((r0 = 0 ∧ r1 = 0 ∧ r2 = 0 ∧ r3 = 0 ∧ r4 = 0 ∧ r5 = 0) ∨ (k = 3 ∧ cd = 0 ∧ (1 ≤ r0 ∧ r0 ≤ 5) ∧ (0 ≤ r1 ∧ r1 ≤ 9999999) ∧ (0 ≤ r2 ∧ r2 ≤ 9999999) ∧ (0 ≤ r3 ∧ r3 ≤ 9999999) ∧ r4 = 0 ∧ r5 = 0)))) ∧ Hid (Bl RB [.int .i64 k, .int .i64 cd, .int .i64 t, .int .i64 i, .int .i64 c, .bool ask, .int .i64 r0, .int .i64 r1, .int .i64 r2, .int .i64 r3, .int .i64 r4, .int .i64 r5, .slice A L.length cap] wx ∧ Below w.heap.size w wx))
              case first =>
                as_aux_lemma =>
                  by_cases hz : r0 = 0 ∧ r1 = 0 ∧ r2 = 0 ∧ r3 = 0 ∧ r4 = 0 ∧ r5 = 0
                  · have GZ := Lib.hid hz
                    have nz := fun W => neqRecZA r0 r1 r2 r3 r4 r5 GZ.out W
                    clear hz
                    go_wp2_with fail
                    go_meet
                    case rel => exact ⟨Or.inr ⟨rfl, Lib.hid (Or.inl GZ.out)⟩, HB⟩
                  · have GZ := Lib.hid hz
                    have nz := fun W => neqRecA r0 r1 r2 r3 r4 r5 GZ.out W
                    clear hz
                    by_cases c22 : k = 3
                    · have G22 := Lib.hid c22
                      clear c22
                      have f22p0 : (k == 3) = true := beq_iff_eq.2 G22.out
                      have f22p1 : (k != 3) = false := by simp [G22.out]
                      by_cases c23 : cd = 0
                      · have G23 := Lib.hid c23
                        clear c23
                        have f23p0 : (cd == 0) = true := beq_iff_eq.2 G23.out
                        have f23p1 : (cd != 0) = false := by simp [G23.out]
                        go_wp2_with fail
                        refine (rrec_any r0 r1 r2 r3 r4 r5 wc).mono ?_
                        rintro e1 w1 ⟨⟨v, rfl, hv⟩, hb⟩
                        have HB1 : Hid (Bl RB [.int .i64 k, .int .i64 cd, .int .i64 t, .int .i64 i, .int .i64 c, .bool ask, .int .i64 r0, .int .i64 r1, .int .i64 r2, .int .i64 r3, .int .i64 r4, .int .i64 r5, .slice A L.length cap] w1 ∧ Below w.heap.size w w1) := Lib.hid ⟨HB.out.1.below hb, Below.step HB.out.2 hb⟩
                        have HV : Hid (v = true ↔ (1 ≤ r0 ∧ r0 ≤ 5) ∧ (0 ≤ r1 ∧ r1 ≤ 9999999) ∧ (0 ≤ r2 ∧ r2 ≤ 9999999) ∧ (0 ≤ r3 ∧ r3 ≤ 9999999) ∧ r4 = 0 ∧ r5 = 0) := Lib.hid hv
                        clear hv hb
                        cases v with
                        | false =>
                          have HV2 : Hid (¬ ((1 ≤ r0 ∧ r0 ≤ 5) ∧ (0 ≤ r1 ∧ r1 ≤ 9999999) ∧ (0 ≤ r2 ∧ r2 ≤ 9999999) ∧ (0 ≤ r3 ∧ r3 ≤ 9999999) ∧ r4 = 0 ∧ r5 = 0)) := Lib.hid (fun h => by have := HV.out.2 h; cases this)
                          go_wp2_with fail
                          go_meet
                          case rel => exact ⟨Or.inl ⟨rfl, Lib.hid (fun hP => hP.elim GZ.out (fun e => HV2.out e.2.2))⟩, HB1⟩
                        | true =>
                          have HV2 := Lib.hid (HV.out.1 rfl)
                          go_wp2_with fail
                          go_meet
                          case rel => exact ⟨Or.inr ⟨rfl, Lib.hid (Or.inr ⟨G22.out, G23.out, HV2.out⟩)⟩, HB1⟩
                      · have G23 := Lib.hid c23
                        clear c23
                        have f23n0 : (cd == 0) = false := beq_eq_false_iff_ne.2 G23.out
                        have f23n1 : (cd != 0) = true := bne_iff_ne.2 G23.out
                        go_wp2_with fail
                        go_meet
                        case rel => exact ⟨Or.inl ⟨rfl, Lib.hid (fun hP => hP.elim GZ.out (fun e => G23.out e.2.1))⟩, HB⟩
                    · have G22 := Lib.hid c22
                      clear c22
                      have f22n0 : (k == 3) = false := beq_eq_false_iff_ne.2 G22.out
                      have f22n1 : (k != 3) = true := bne_iff_ne.2 G22.out
                      go_wp2_with fail
                      go_meet
                      case rel => exact ⟨Or.inl ⟨rfl, Lib.hid (fun hP => hP.elim GZ.out (fun e => G22.out e.1))⟩, HB⟩
              case rest =>
                clear y0 y1 y6 y7 y8 y9 y10 y11
                obtain ⟨hs, HB⟩ := hcut
                rcases hs with ⟨rfl, HN⟩ | ⟨rfl, Q7⟩
                · go_wp2_with fail
                  go_ret
                  exact ⟨Bi.f (fun h => HN.out (rt_iff.1 h).2.2.2.1), HB.out.2⟩
                · go_upto_region 9 with fail
                  have y0 := HB.out.1.cell 0 _ rfl
                  have y1 := HB.out.1.cell 1 _ rfl
                  have y12 := HB.out.1.cell 12 _ rfl
                  by_cases c24 : L = []
                  · have G24 := Lib.hid c24
                    clear c24
                    have f24p0 : (L.length == 0) = true := by rw [G24.out]; rfl
                    have f24p1 : ((L.length : Int) == 0) = true := by rw [G24.out]; rfl
                    go_wp2_with fail
                    go_ret
                    exact ⟨Bi.t (rt_iff.2 ⟨Q1.out, Q3.out, Q5.out, Q7.out, Or.inl G24.out⟩), HB.out.2⟩
                  · have G24 := Lib.hid c24
                    clear c24
                    have f24n0 : (L.length == 0) = false := beq_eq_false_iff_ne.2 (fun e => G24.out (List.length_eq_zero_iff.1 e))
                    have f24n1 : ((L.length : Int) == 0) = false := beq_eq_false_iff_ne.2 (fun e => G24.out (List.length_eq_zero_iff.1 (by omega)))
                    by_cases c25 : k = 4
                    · have G25 := Lib.hid c25
                      clear c25
                      have f25p0 : (k == 4) = true := beq_iff_eq.2 G25.out
                      have f25p1 : (k != 4) = false := by simp [G25.out]
                      by_cases c26 : cd = 0
                      · have G26 := Lib.hid c26
                        clear c26
                        have f26p0 : (cd == 0) = true := beq_iff_eq.2 G26.out
                        have f26p1 : (cd != 0) = false := by simp [G26.out]
                        go_wp2_with fail
                        refine (rlooks_any A L cap HLL.out wc (HLK.out.below HB.out.2)).mono ?_
                        rintro e1 w1 ⟨⟨v, rfl, hv⟩, hb⟩
                        have HB1 : Hid (Bl RB [.int .i64 k, .int .i64 cd, .int .i64 t, .int .i64 i, .int .i64 c, .bool ask, .int .i64 r0, .int .i64 r1, .int .i64 r2, .int .i64 r3, .int .i64 r4, .int .i64 r5, .slice A L.length cap] w1 ∧ Below w.heap.size w w1) := Lib.hid ⟨HB.out.1.below hb, Below.step HB.out.2 hb⟩
                        have HV : Hid (v = true ↔ ∀ x ∈ L, lkR x = true) := Lib.hid hv
                        clear hv hb
                        cases v with
                        | false =>
                          have HV2 : Hid (¬ (∀ x ∈ L, lkR x = true)) := Lib.hid (fun h => by have := HV.out.2 h; cases this)
                          go_wp2_with fail
                          go_ret
                          exact ⟨Bi.f (fun h => (rt_iff.1 h).2.2.2.2.elim G24.out (fun e => HV2.out e.2.2)), HB1.out.2⟩
                        | true =>
                          have HV2 := Lib.hid (HV.out.1 rfl)
                          go_wp2_with fail
                          go_ret
                          exact ⟨Bi.t (rt_iff.2 ⟨Q1.out, Q3.out, Q5.out, Q7.out, Or.inr ⟨G25.out, G26.out, HV2.out⟩⟩), HB1.out.2⟩
                      · have G26 := Lib.hid c26
                        clear c26
                        have f26n0 : (cd == 0) = false := beq_eq_false_iff_ne.2 G26.out
                        have f26n1 : (cd != 0) = true := bne_iff_ne.2 G26.out
                        go_wp2_with fail
                        go_ret
                        exact ⟨Bi.f (fun h => (rt_iff.1 h).2.2.2.2.elim G24.out (fun e => G26.out e.2.1)), HB.out.2⟩
                    · have G25 := Lib.hid c25
                      clear c25
                      have f25n0 : (k == 4) = false := beq_eq_false_iff_ne.2 G25.out
                      have f25n1 : (k != 4) = true := bne_iff_ne.2 G25.out
                      go_wp2_with fail
                      go_ret
                      exact ⟨Bi.f (fun h => (rt_iff.1 h).2.2.2.2.elim G24.out (fun e => G25.out e.1)), HB.out.2⟩

end Go.Proofs.YtinciphhoieonaaGreatDoor

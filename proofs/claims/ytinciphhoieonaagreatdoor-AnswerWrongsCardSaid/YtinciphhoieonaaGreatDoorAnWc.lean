/-
  The codes' map.
-/
import Derived.Test.YtinciphhoieonaaGreatDoorRows
import Derived.Test.YtinciphhoieonaaGreatDoorKit
import Derived.Test.YtinciphhoieonaaGreatDoorApp
import Derived.Test.YtinciphhoieonaaGreatDoorQuiet
import Derived.WalkKit
import Derived.ProofKit
import Derived.OpenShut
import Derived.ShutString
import Derived.Below
import Derived.Outline
import Derived.WalkLawsBesides
import Derived.WalkSpells
import Derived.Handy
import Derived.Deep.QuietTactic
import Derived.BigQuiet
import Derived.RegionTactic
import Derived.ChangeAlike
import Derived.Lib.Hide
import Derived.Laws.Rows
import Derived.Laws.Tables
import Derived.Laws.CopyOwn
import Derived.Laws.MakeOwn
import Derived.Laws.Entries
import Derived.Laws.OwnMore
import Derived.Deep.WholeRow
import Derived.Deep.LoopGhost
import Derived.Deep.AppendLies
import Derived.Deep.Draws
import Derived.Maps.AppendAt
import Derived.OwnWalk
import Derived.Deep.RegionHeld3
import Derived.Deep.Cut
import Derived.Deep.CutRange
import Derived.Deep.DeepCutAuto
import Derived.Deep.CutBlock
import Derived.Lib.SliceRun
import Derived.IntWalk
import Derived.Laws.Strings
import Derived.Lib.Bytealg
import Derived.Lib.Strings
import Derived.Laws.Externs
import Derived.Test.YtinciphhoieonaaGreatDoorAnWa
namespace Go.Proofs.YtinciphhoieonaaGreatDoor
open Go.ChangeShapes Go.WideShapes Go.ChangeAt Go.RowKit
/-- The map of the codes, when n of them are done, from 29 down: numbers, words, how many words, how many stores. -/
def cst : Nat → (List UInt8 → Int) × (List UInt8 → Bool) × Nat × Nat
  | 0 => (fun _ => 0, fun _ => false, 0, 0)
  | j + 1 => let s := cst j; if inC (29 - j) = true then (setS s.1 (cn (29 - j)) ((29 - j : Nat) : Int), setK s.2.1 (cn (29 - j)), (if s.2.1 (cn (29 - j)) = true then s.2.2.1 else s.2.2.1 + 1), s.2.2.2 + 1) else s
theorem cst_le : ∀ j, (cst j).2.2.2 ≤ j
  | 0 => Nat.le_refl _
  | j + 1 => by
    have := cst_le j
    show (if inC (29 - j) = true then _ else cst j).2.2.2 ≤ _
    split
    · show (cst j).2.2.2 + 1 ≤ _
      omega
    · omega
def CM (w : World) (b j : Nat) : Prop := MpM w b (cst j).1 (cst j).2.1 (cst j).2.2.1 (cst j).2.2.2
theorem cn_len (c : Nat) : (cn c).length ≤ 1000 := by
  unfold cn
  split <;> decide
set_option maxRecDepth 100000 in
set_option maxHeartbeats 8000000 in
theorem codes_is (w : World) : Calls Tryz.prog 15 #[] w fun e w' => e = .returned (.map (some w.heap.size)) ∧ CM w' w.heap.size 29 ∧ Below w.heap.size w w' := by
  have HM0 : Hid (CM (w.alloc (.map #[] 0)) w.heap.size 0 ∧ Below w.heap.size w (w.alloc (.map #[] 0))) := Lib.hid ⟨MpM.made w, by go_grown⟩
  obtain ⟨MB, hMB⟩ : ∃ MB, MB = w.heap.size := ⟨_, rfl⟩
  have HMB := Lib.hid hMB
  have hmm := @run_makeMap Tryz.prog
  go_enter Tryz.func15, Tryz.ntmps15
  go_wp2_with fail
  rw [← hMB]
  rw [← hMB] at HM0
  clear hMB
  go_loopw [2] (fun v wr => ∃ j : Nat, j ≤ 29 ∧ v = .int .i64 (29 - (j : Int)) ∧ Hid (CM wr MB j ∧ Below MB w wr)) (fun v _ => (intOf v).toNat)
  case atStart => exact ⟨0, by decide, rfl, HM0⟩
  case round =>
    clear HM0
    obtain ⟨j, hj, rfl, HM⟩ := hrel
    obtain ⟨c, hc⟩ : ∃ c : Nat, c = 29 - j := ⟨_, rfl⟩
    rw [show (29 : Int) - (j : Int) = (c : Int) by omega]
    by_cases hlt : 1 ≤ c
    · have hlt2 : j < 29 := by omega
      have q1 : (1 : Int) ≤ (c : Int) := by omega
      have q2 : (c : Int) ≤ 29 := by omega
      have HJ := Lib.hid (And.intro hc hlt2)
      have HC1 : Hid (1 ≤ c ∧ c ≤ 29) := Lib.hid (by omega)
      clear hc hlt hlt2 hj
      by_cases c9 : (c : Int) = 1
      · have G9 := Lib.hid c9
        clear c9
        have f9p0 : ((c : Int) == 1) = true := beq_iff_eq.2 G9.out
        have f9p1 : ((c : Int) != 1) = false := by simp [G9.out]
        have HIN : Hid (inC c = true) := Lib.hid (by unfold inC; simp; have G9o := G9.out; have := HC1.out; omega)
        go_wp2_with fail
        refine (fname_is c HIN.out HC1.out.2 _).mono ?_
        rintro e1 w1 ⟨rfl, hw1⟩
        subst hw1
        have HST : Hid (cst (j + 1) = (setS (cst j).1 (cn c) ((c : Nat) : Int), setK (cst j).2.1 (cn c), (if (cst j).2.1 (cn c) = true then (cst j).2.2.1 else (cst j).2.2.1 + 1), (cst j).2.2.2 + 1)) := Lib.hid (by
          have h1 := HJ.out.1
          show (if inC (29 - j) = true then _ else _) = _
          rw [← h1, if_pos HIN.out])
        go_wp2_with (refine wpList_setw rfl _ _ _ rfl MB _ _ _ _ rfl HM.out.1 (by have h1 := cst_le j; have h2 := HJ.out; omega) (cn c) (cn_len c) rfl (c : Int) (by omega) (by have := HC1.out; omega) rfl ?_; intro w8 hm8 hg8; have HM8 : Hid (CM w8 MB (j + 1) ∧ Below MB w w8) := Lib.hid ⟨by unfold CM; rw [HST.out]; exact hm8, Below.grown HM.out.2 hg8 (by have := HM.out.2.size; have := HMB.out; omega) (fun k e => by injection e with e; omega)⟩; clear hm8 hg8)
        go_roundw
        case rel => exact ⟨j + 1, by have := HJ.out; omega, by have := HJ.out; go_num, HM8⟩
        case measure => have := HJ.out; have := HC1.out; simp [intOf]; omega
      · have G9 := Lib.hid c9
        clear c9
        have f9n0 : ((c : Int) == 1) = false := beq_eq_false_iff_ne.2 G9.out
        have f9n1 : ((c : Int) != 1) = true := bne_iff_ne.2 G9.out
        by_cases c10 : (c : Int) = 6
        · have G10 := Lib.hid c10
          clear c10
          have f10p0 : ((c : Int) == 6) = true := beq_iff_eq.2 G10.out
          have f10p1 : ((c : Int) != 6) = false := by simp [G10.out]
          have HIN : Hid (inC c = true) := Lib.hid (by unfold inC; simp; have G10o := G10.out; have := HC1.out; omega)
          go_wp2_with fail
          refine (fname_is c HIN.out HC1.out.2 _).mono ?_
          rintro e1 w1 ⟨rfl, hw1⟩
          subst hw1
          have HST : Hid (cst (j + 1) = (setS (cst j).1 (cn c) ((c : Nat) : Int), setK (cst j).2.1 (cn c), (if (cst j).2.1 (cn c) = true then (cst j).2.2.1 else (cst j).2.2.1 + 1), (cst j).2.2.2 + 1)) := Lib.hid (by
            have h1 := HJ.out.1
            show (if inC (29 - j) = true then _ else _) = _
            rw [← h1, if_pos HIN.out])
          go_wp2_with (refine wpList_setw rfl _ _ _ rfl MB _ _ _ _ rfl HM.out.1 (by have h1 := cst_le j; have h2 := HJ.out; omega) (cn c) (cn_len c) rfl (c : Int) (by omega) (by have := HC1.out; omega) rfl ?_; intro w8 hm8 hg8; have HM8 : Hid (CM w8 MB (j + 1) ∧ Below MB w w8) := Lib.hid ⟨by unfold CM; rw [HST.out]; exact hm8, Below.grown HM.out.2 hg8 (by have := HM.out.2.size; have := HMB.out; omega) (fun k e => by injection e with e; omega)⟩; clear hm8 hg8)
          go_roundw
          case rel => exact ⟨j + 1, by have := HJ.out; omega, by have := HJ.out; go_num, HM8⟩
          case measure => have := HJ.out; have := HC1.out; simp [intOf]; omega
        · have G10 := Lib.hid c10
          clear c10
          have f10n0 : ((c : Int) == 6) = false := beq_eq_false_iff_ne.2 G10.out
          have f10n1 : ((c : Int) != 6) = true := bne_iff_ne.2 G10.out
          by_cases c11 : 10 ≤ (c : Int)
          · have G11 := Lib.hid c11
            clear c11
            have f11p0 : decide (10 ≤ (c : Int)) = true := decide_eq_true G11.out
            by_cases c12 : (c : Int) ≤ 15
            · have G12 := Lib.hid c12
              clear c12
              have f12p0 : decide ((c : Int) ≤ 15) = true := decide_eq_true G12.out
              have HIN : Hid (inC c = true) := Lib.hid (by unfold inC; simp; have G11o := G11.out; have G12o := G12.out; have := HC1.out; omega)
              go_wp2_with fail
              refine (fname_is c HIN.out HC1.out.2 _).mono ?_
              rintro e1 w1 ⟨rfl, hw1⟩
              subst hw1
              have HST : Hid (cst (j + 1) = (setS (cst j).1 (cn c) ((c : Nat) : Int), setK (cst j).2.1 (cn c), (if (cst j).2.1 (cn c) = true then (cst j).2.2.1 else (cst j).2.2.1 + 1), (cst j).2.2.2 + 1)) := Lib.hid (by
                have h1 := HJ.out.1
                show (if inC (29 - j) = true then _ else _) = _
                rw [← h1, if_pos HIN.out])
              go_wp2_with (refine wpList_setw rfl _ _ _ rfl MB _ _ _ _ rfl HM.out.1 (by have h1 := cst_le j; have h2 := HJ.out; omega) (cn c) (cn_len c) rfl (c : Int) (by omega) (by have := HC1.out; omega) rfl ?_; intro w8 hm8 hg8; have HM8 : Hid (CM w8 MB (j + 1) ∧ Below MB w w8) := Lib.hid ⟨by unfold CM; rw [HST.out]; exact hm8, Below.grown HM.out.2 hg8 (by have := HM.out.2.size; have := HMB.out; omega) (fun k e => by injection e with e; omega)⟩; clear hm8 hg8)
              go_roundw
              case rel => exact ⟨j + 1, by have := HJ.out; omega, by have := HJ.out; go_num, HM8⟩
              case measure => have := HJ.out; have := HC1.out; simp [intOf]; omega
            · have G12 := Lib.hid c12
              clear c12
              have f12n0 : decide ((c : Int) ≤ 15) = false := decide_eq_false G12.out
              by_cases c13 : 20 ≤ (c : Int)
              · have G13 := Lib.hid c13
                clear c13
                have f13p0 : decide (20 ≤ (c : Int)) = true := decide_eq_true G13.out
                have HIN : Hid (inC c = true) := Lib.hid (by unfold inC; simp; have G9o := G9.out; have G10o := G10.out; have G12o := G12.out; have G13o := G13.out; have := HC1.out; omega)
                go_wp2_with fail
                refine (fname_is c HIN.out HC1.out.2 _).mono ?_
                rintro e1 w1 ⟨rfl, hw1⟩
                subst hw1
                have HST : Hid (cst (j + 1) = (setS (cst j).1 (cn c) ((c : Nat) : Int), setK (cst j).2.1 (cn c), (if (cst j).2.1 (cn c) = true then (cst j).2.2.1 else (cst j).2.2.1 + 1), (cst j).2.2.2 + 1)) := Lib.hid (by
                  have h1 := HJ.out.1
                  show (if inC (29 - j) = true then _ else _) = _
                  rw [← h1, if_pos HIN.out])
                go_wp2_with (refine wpList_setw rfl _ _ _ rfl MB _ _ _ _ rfl HM.out.1 (by have h1 := cst_le j; have h2 := HJ.out; omega) (cn c) (cn_len c) rfl (c : Int) (by omega) (by have := HC1.out; omega) rfl ?_; intro w8 hm8 hg8; have HM8 : Hid (CM w8 MB (j + 1) ∧ Below MB w w8) := Lib.hid ⟨by unfold CM; rw [HST.out]; exact hm8, Below.grown HM.out.2 hg8 (by have := HM.out.2.size; have := HMB.out; omega) (fun k e => by injection e with e; omega)⟩; clear hm8 hg8)
                go_roundw
                case rel => exact ⟨j + 1, by have := HJ.out; omega, by have := HJ.out; go_num, HM8⟩
                case measure => have := HJ.out; have := HC1.out; simp [intOf]; omega
              · have G13 := Lib.hid c13
                clear c13
                have f13n0 : decide (20 ≤ (c : Int)) = false := decide_eq_false G13.out
                have HIN : Hid (inC c = false) := Lib.hid (by unfold inC; simp; have G9o := G9.out; have G10o := G10.out; have G12o := G12.out; have G13o := G13.out; have := HC1.out; omega)
                have HST : Hid (cst (j + 1) = cst j) := Lib.hid (by
                  have h1 := HJ.out.1
                  show (if inC (29 - j) = true then _ else _) = _
                  rw [← h1, if_neg (by rw [HIN.out]; decide)])
                go_wp2_with fail
                go_roundw
                case rel =>
                  refine ⟨j + 1, by have := HJ.out; omega, by have := HJ.out; go_num, Lib.hid ⟨?_, HM.out.2⟩⟩
                  unfold CM
                  rw [HST.out]
                  exact HM.out.1
                case measure => have := HJ.out; have := HC1.out; simp [intOf]; omega
          · have G11 := Lib.hid c11
            clear c11
            have f11n0 : decide (10 ≤ (c : Int)) = false := decide_eq_false G11.out
            by_cases c14 : 20 ≤ (c : Int)
            · have G14 := Lib.hid c14
              clear c14
              have f14p0 : decide (20 ≤ (c : Int)) = true := decide_eq_true G14.out
              have HIN : Hid (inC c = true) := Lib.hid (by unfold inC; simp; have G9o := G9.out; have G10o := G10.out; have G11o := G11.out; have G14o := G14.out; have := HC1.out; omega)
              go_wp2_with fail
              refine (fname_is c HIN.out HC1.out.2 _).mono ?_
              rintro e1 w1 ⟨rfl, hw1⟩
              subst hw1
              have HST : Hid (cst (j + 1) = (setS (cst j).1 (cn c) ((c : Nat) : Int), setK (cst j).2.1 (cn c), (if (cst j).2.1 (cn c) = true then (cst j).2.2.1 else (cst j).2.2.1 + 1), (cst j).2.2.2 + 1)) := Lib.hid (by
                have h1 := HJ.out.1
                show (if inC (29 - j) = true then _ else _) = _
                rw [← h1, if_pos HIN.out])
              go_wp2_with (refine wpList_setw rfl _ _ _ rfl MB _ _ _ _ rfl HM.out.1 (by have h1 := cst_le j; have h2 := HJ.out; omega) (cn c) (cn_len c) rfl (c : Int) (by omega) (by have := HC1.out; omega) rfl ?_; intro w8 hm8 hg8; have HM8 : Hid (CM w8 MB (j + 1) ∧ Below MB w w8) := Lib.hid ⟨by unfold CM; rw [HST.out]; exact hm8, Below.grown HM.out.2 hg8 (by have := HM.out.2.size; have := HMB.out; omega) (fun k e => by injection e with e; omega)⟩; clear hm8 hg8)
              go_roundw
              case rel => exact ⟨j + 1, by have := HJ.out; omega, by have := HJ.out; go_num, HM8⟩
              case measure => have := HJ.out; have := HC1.out; simp [intOf]; omega
            · have G14 := Lib.hid c14
              clear c14
              have f14n0 : decide (20 ≤ (c : Int)) = false := decide_eq_false G14.out
              have HIN : Hid (inC c = false) := Lib.hid (by unfold inC; simp; have G9o := G9.out; have G10o := G10.out; have G11o := G11.out; have G14o := G14.out; have := HC1.out; omega)
              have HST : Hid (cst (j + 1) = cst j) := Lib.hid (by
                have h1 := HJ.out.1
                show (if inC (29 - j) = true then _ else _) = _
                rw [← h1, if_neg (by rw [HIN.out]; decide)])
              go_wp2_with fail
              go_roundw
              case rel =>
                refine ⟨j + 1, by have := HJ.out; omega, by have := HJ.out; go_num, Lib.hid ⟨?_, HM.out.2⟩⟩
                unfold CM
                rw [HST.out]
                exact HM.out.1
              case measure => have := HJ.out; have := HC1.out; simp [intOf]; omega
    · have HJ : Hid (j = 29) := Lib.hid (by omega)
      have q1 : decide ((1 : Int) ≤ (c : Int)) = false := decide_eq_false (by omega)
      clear hc hlt hj
      go_wp2_with fail
      go_ret
      have e := HJ.out
      rw [e] at HM
      rw [← HMB.out]
      exact ⟨rfl, HM.out⟩

end Go.Proofs.YtinciphhoieonaaGreatDoor

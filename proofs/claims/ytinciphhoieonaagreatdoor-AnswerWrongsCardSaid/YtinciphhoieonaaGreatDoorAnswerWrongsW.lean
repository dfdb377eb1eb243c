/-
  The law's walk.
-/
import Derived.Test.YtinciphhoieonaaGreatDoorRows
import Derived.Test.YtinciphhoieonaaGreatDoorKit
import Derived.Test.YtinciphhoieonaaGreatDoorApp
import Derived.Test.YtinciphhoieonaaGreatDoorQuiet
import Derived.WalkKit
import Derived.ProofKit
import Derived.OpenShut
import Derived.ShutString
import Derived.Below
import Derived.Outline
import Derived.WalkLawsBesides
import Derived.WalkSpells
import Derived.Handy
import Derived.Deep.QuietTactic
import Derived.BigQuiet
import Derived.RegionTactic
import Derived.ChangeAlike
import Derived.Lib.Hide
import Derived.Laws.Rows
import Derived.Laws.Tables
import Derived.Laws.CopyOwn
import Derived.Laws.MakeOwn
import Derived.Laws.Entries
import Derived.Laws.OwnMore
import Derived.Deep.WholeRow
import Derived.Deep.LoopGhost
import Derived.Deep.AppendLies
import Derived.Deep.Draws
import Derived.Maps.AppendAt
import Derived.OwnWalk
import Derived.Deep.RegionHeld3
import Derived.Deep.Cut
import Derived.Deep.CutRange
import Derived.Deep.DeepCutAuto
import Derived.Deep.CutBlock
import Derived.Lib.SliceRun
import Derived.IntWalk
import Derived.Laws.Strings
import Derived.Lib.Bytealg
import Derived.Lib.Strings
import Derived.Laws.Externs
import Derived.Test.YtinciphhoieonaaGreatDoorAnG
import Derived.Test.YtinciphhoieonaaGreatDoorAnWb
import Derived.Test.YtinciphhoieonaaGreatDoorAnWc
import Derived.Test.YtinciphhoieonaaGreatDoorAnWa
namespace Go.Proofs.YtinciphhoieonaaGreatDoor
open Go.ChangeShapes Go.WideShapes Go.ChangeAt Go.RowKit
/-- How many codes below c have a name of their own. -/
def nc : Nat → Nat
  | 0 => 0
  | j + 1 => if inC j = true ∧ cn j ≠ [111, 116, 104, 101, 114] then nc j + 1 else nc j
theorem nc_le : ∀ j, nc j ≤ j
  | 0 => Nat.le_refl _
  | j + 1 => by
    have := nc_le j
    unfold nc
    split <;> omega
theorem cst_all : (cst 29).2.2.1 = 17 ∧ (cst 29).1 (cn 1) = 1 := by decide +kernel
theorem eqO (l : List UInt8) : ((Bs l).toList == [111, 116, 104, 101, 114]) = (l == [111, 116, 104, 101, 114]) := by
  rw [ByteArray.toList_eq, Bs_list]
theorem cn_own {c : Nat} (h : inC c = true) (h2 : c ≤ 29) : (c = 1 ∨ c = 6) ∧ cn c = [111, 116, 104, 101, 114] ∨ cn c ≠ [111, 116, 104, 101, 114] ∧ (cst 29).1 (cn c) = (c : Int) := by
  rcases inC_cases h h2 with rfl | rfl | rfl | rfl | rfl | rfl | rfl | rfl | rfl | rfl | rfl | rfl | rfl | rfl | rfl | rfl | rfl | rfl
  · exact Or.inl ⟨by decide, rfl⟩
  · exact Or.inl ⟨by decide, rfl⟩
  · exact Or.inr ⟨by decide, by decide +kernel⟩
  · exact Or.inr ⟨by decide, by decide +kernel⟩
  · exact Or.inr ⟨by decide, by decide +kernel⟩
  · exact Or.inr ⟨by decide, by decide +kernel⟩
  · exact Or.inr ⟨by decide, by decide +kernel⟩
  · exact Or.inr ⟨by decide, by decide +kernel⟩
  · exact Or.inr ⟨by decide, by decide +kernel⟩
  · exact Or.inr ⟨by decide, by decide +kernel⟩
  · exact Or.inr ⟨by decide, by decide +kernel⟩
  · exact Or.inr ⟨by decide, by decide +kernel⟩
  · exact Or.inr ⟨by decide, by decide +kernel⟩
  · exact Or.inr ⟨by decide, by decide +kernel⟩
  · exact Or.inr ⟨by decide, by decide +kernel⟩
  · exact Or.inr ⟨by decide, by decide +kernel⟩
  · exact Or.inr ⟨by decide, by decide +kernel⟩
  · exact Or.inr ⟨by decide, by decide +kernel⟩
set_option maxRecDepth 100000 in
set_option maxHeartbeats 8000000 in
theorem walk (tick code at_ : Int) (place : Bool) (h1 : -9223372036854775808 ≤ tick ∧ tick ≤ 9223372036854775807) (h2 : -9223372036854775808 ≤ code ∧ code ≤ 9223372036854775807) (h3 : -9223372036854775808 ≤ at_ ∧ at_ ≤ 9223372036854775807) (w : World) (hg : w.cell? ⟨1, 0, none⟩ = some (.iface 100 (.agg #[.pointer (some ⟨10, 35, none⟩)]))) (hgl : 1 < w.heap.size) (hv : Vb w) (ht : Tb w) (hm : Ml w) : Calls Tryz.prog 4 #[.int .i64 tick, .int .i64 code, .int .i64 at_, .bool place] w fun e w' => e = .returned (.bool true) ∧ Below w.heap.size w w' := by
  have HR := Lib.hid (And.intro h1 (And.intro h2 h3))
  have HG := Lib.hid hg
  have HGL := Lib.hid hgl
  have HV := Lib.hid hv
  have HT := Lib.hid ht
  have HM := Lib.hid hm
  clear h1 h2 h3 hg hgl hv ht hm
  cases place with
  | false =>
    obtain ⟨w1, hw1⟩ : ∃ w1, w1 = w := ⟨_, rfl⟩
    have HB1 : Hid (Below w.heap.size w w1) := Lib.hid (by rw [hw1]; exact Below.refl _ _)
    obtain ⟨v, hv⟩ : ∃ v : Value, v = .iface 22 (.int .i64 code) := ⟨_, rfl⟩
    have HC1 : Hid (Ch w1 code [] v) := Lib.hid hv
    go_enter Tryz.func4, Tryz.ntmps4
    go_upto_region 6 with fail
    rw [← hv, ← hw1]
    clear hv hw1
    go_wp2_with fail
    refine (codes_is _).mono ?_
    rintro e2 w2 ⟨rfl, hc2, hb2⟩
    obtain ⟨MB, hMB⟩ : ∃ MB, MB = w1.heap.size := ⟨_, rfl⟩
    rw [← hMB] at hc2 ⊢
    have HS2 : Hid (CM w2 MB 29 ∧ Below w.heap.size w w2 ∧ Ch w2 code [] v) := Lib.hid ⟨hc2, Below.step HB1.out hb2, HC1.out.below hb2⟩
    clear hc2 hb2 hMB
    go_wp2_with fail
    go_loopw [12, 24] (fun n' v' wr => ∃ c : Nat, c ≤ 30 ∧ v' = .int .i64 (c : Int) ∧ n' = .int .i64 (nc c : Int) ∧ Hid (CM wr MB 29 ∧ Below w.heap.size w wr ∧ Ch wr code [] v)) (fun _ v' _ => 31 - (intOf v').toNat)
    case atStart => exact ⟨0, by decide, rfl, rfl, HS2⟩
    case round =>
      clear HS2
      obtain ⟨c, hc, rfl, rfl, HS⟩ := hrel
      have i0 : (0 : Int) ≤ (c : Int) := by omega
      by_cases hlt : c < 30
      · have q0 : (c : Int) < 30 := by omega
        have n0 : (nc c : Int) ≤ 30 := by have := nc_le c; omega
        have n1 : (0 : Int) ≤ (nc c : Int) := by omega
        have HC : Hid (c < 30) := Lib.hid hlt
        clear hc hlt
        by_cases c15 : (c : Int) = 1
        · have G15 := Lib.hid c15
          clear c15
          have f15p0 : ((c : Int) == 1) = true := beq_iff_eq.2 G15.out
          have f15p1 : ((c : Int) != 1) = false := by simp [G15.out]
          have HIN : Hid (inC c = true) := Lib.hid (by unfold inC; simp; have G15o := G15.out; omega)
          go_wp2_with fail
          refine (rfname_is c HIN.out (by have := HC.out; omega) _).mono ?_
          rintro e3 w3 ⟨rfl, hb3⟩
          have HS3 : Hid (CM w3 MB 29 ∧ Below w.heap.size w w3 ∧ Ch w3 code [] v) := Lib.hid ⟨HS.out.1.below hb3, Below.step HS.out.2.1 hb3, HS.out.2.2.below hb3⟩
          clear hb3
          rcases cn_own HIN.out (by have := HC.out; omega) with ⟨_, ho⟩ | ⟨ho, hs⟩
          · have hz : ((Bs (cn c)).toList == [111, 116, 104, 101, 114]) = true := by rw [eqO, ho]; rfl
            have HNC : Hid (nc (c + 1) = nc c) := Lib.hid (by
              show (if inC c = true ∧ cn c ≠ [111, 116, 104, 101, 114] then nc c + 1 else nc c) = _
              rw [if_neg (fun h => h.2 ho)])
            clear ho
            go_wp2_with fail
            go_roundw
            case rel => exact ⟨c + 1, by have := HC.out; omega, by go_num, by rw [HNC.out], HS3⟩
            case measure => have := HC.out; simp [intOf]; omega
          · have hz : ((Bs (cn c)).toList == [111, 116, 104, 101, 114]) = false := by rw [eqO]; exact beq_eq_false_iff_ne.2 ho
            have HNC : Hid (nc (c + 1) = nc c + 1) := Lib.hid (by
              show (if inC c = true ∧ cn c ≠ [111, 116, 104, 101, 114] then nc c + 1 else nc c) = _
              rw [if_pos ⟨HIN.out, ho⟩])
            have hlk : (Instr.lookup 45 (.map (some MB)) (.string (Bs (cn c))) false).run Tryz.prog w3 = .ok (.int .i64 (c : Int)) w3 := by
              have := HS3.out.1.look (cn c) (cn_len c)
              rwa [hs] at this
            clear ho hs
            go_wp2_with fail
            go_roundw
            case rel => exact ⟨c + 1, by have := HC.out; omega, by go_num, by rw [HNC.out]; go_num, HS3⟩
            case measure => have := HC.out; simp [intOf]; omega
        · have G15 := Lib.hid c15
          clear c15
          have f15n0 : ((c : Int) == 1) = false := beq_eq_false_iff_ne.2 G15.out
          have f15n1 : ((c : Int) != 1) = true := bne_iff_ne.2 G15.out
          by_cases c16 : (c : Int) = 6
          · have G16 := Lib.hid c16
            clear c16
            have f16p0 : ((c : Int) == 6) = true := beq_iff_eq.2 G16.out
            have f16p1 : ((c : Int) != 6) = false := by simp [G16.out]
            have HIN : Hid (inC c = true) := Lib.hid (by unfold inC; simp; have G16o := G16.out; omega)
            go_wp2_with fail
            refine (rfname_is c HIN.out (by have := HC.out; omega) _).mono ?_
            rintro e3 w3 ⟨rfl, hb3⟩
            have HS3 : Hid (CM w3 MB 29 ∧ Below w.heap.size w w3 ∧ Ch w3 code [] v) := Lib.hid ⟨HS.out.1.below hb3, Below.step HS.out.2.1 hb3, HS.out.2.2.below hb3⟩
            clear hb3
            rcases cn_own HIN.out (by have := HC.out; omega) with ⟨_, ho⟩ | ⟨ho, hs⟩
            · have hz : ((Bs (cn c)).toList == [111, 116, 104, 101, 114]) = true := by rw [eqO, ho]; rfl
              have HNC : Hid (nc (c + 1) = nc c) := Lib.hid (by
                show (if inC c = true ∧ cn c ≠ [111, 116, 104, 101, 114] then nc c + 1 else nc c) = _
                rw [if_neg (fun h => h.2 ho)])
              clear ho
              go_wp2_with fail
              go_roundw
              case rel => exact ⟨c + 1, by have := HC.out; omega, by go_num, by rw [HNC.out], HS3⟩
              case measure => have := HC.out; simp [intOf]; omega
            · have hz : ((Bs (cn c)).toList == [111, 116, 104, 101, 114]) = false := by rw [eqO]; exact beq_eq_false_iff_ne.2 ho
              have HNC : Hid (nc (c + 1) = nc c + 1) := Lib.hid (by
                show (if inC c = true ∧ cn c ≠ [111, 116, 104, 101, 114] then nc c + 1 else nc c) = _
                rw [if_pos ⟨HIN.out, ho⟩])
              have hlk : (Instr.lookup 45 (.map (some MB)) (.string (Bs (cn c))) false).run Tryz.prog w3 = .ok (.int .i64 (c : Int)) w3 := by
                have := HS3.out.1.look (cn c) (cn_len c)
                rwa [hs] at this
              clear ho hs
              go_wp2_with fail
              go_roundw
              case rel => exact ⟨c + 1, by have := HC.out; omega, by go_num, by rw [HNC.out]; go_num, HS3⟩
              case measure => have := HC.out; simp [intOf]; omega
          · have G16 := Lib.hid c16
            clear c16
            have f16n0 : ((c : Int) == 6) = false := beq_eq_false_iff_ne.2 G16.out
            have f16n1 : ((c : Int) != 6) = true := bne_iff_ne.2 G16.out
            by_cases c17 : 10 ≤ (c : Int)
            · have G17 := Lib.hid c17
              clear c17
              have f17p0 : decide (10 ≤ (c : Int)) = true := decide_eq_true G17.out
              by_cases c18 : (c : Int) ≤ 15
              · have G18 := Lib.hid c18
                clear c18
                have f18p0 : decide ((c : Int) ≤ 15) = true := decide_eq_true G18.out
                have HIN : Hid (inC c = true) := Lib.hid (by unfold inC; simp; have G17o := G17.out; have G18o := G18.out; omega)
                go_wp2_with fail
                refine (rfname_is c HIN.out (by have := HC.out; omega) _).mono ?_
                rintro e3 w3 ⟨rfl, hb3⟩
                have HS3 : Hid (CM w3 MB 29 ∧ Below w.heap.size w w3 ∧ Ch w3 code [] v) := Lib.hid ⟨HS.out.1.below hb3, Below.step HS.out.2.1 hb3, HS.out.2.2.below hb3⟩
                clear hb3
                rcases cn_own HIN.out (by have := HC.out; omega) with ⟨_, ho⟩ | ⟨ho, hs⟩
                · have hz : ((Bs (cn c)).toList == [111, 116, 104, 101, 114]) = true := by rw [eqO, ho]; rfl
                  have HNC : Hid (nc (c + 1) = nc c) := Lib.hid (by
                    show (if inC c = true ∧ cn c ≠ [111, 116, 104, 101, 114] then nc c + 1 else nc c) = _
                    rw [if_neg (fun h => h.2 ho)])
                  clear ho
                  go_wp2_with fail
                  go_roundw
                  case rel => exact ⟨c + 1, by have := HC.out; omega, by go_num, by rw [HNC.out], HS3⟩
                  case measure => have := HC.out; simp [intOf]; omega
                · have hz : ((Bs (cn c)).toList == [111, 116, 104, 101, 114]) = false := by rw [eqO]; exact beq_eq_false_iff_ne.2 ho
                  have HNC : Hid (nc (c + 1) = nc c + 1) := Lib.hid (by
                    show (if inC c = true ∧ cn c ≠ [111, 116, 104, 101, 114] then nc c + 1 else nc c) = _
                    rw [if_pos ⟨HIN.out, ho⟩])
                  have hlk : (Instr.lookup 45 (.map (some MB)) (.string (Bs (cn c))) false).run Tryz.prog w3 = .ok (.int .i64 (c : Int)) w3 := by
                    have := HS3.out.1.look (cn c) (cn_len c)
                    rwa [hs] at this
                  clear ho hs
                  go_wp2_with fail
                  go_roundw
                  case rel => exact ⟨c + 1, by have := HC.out; omega, by go_num, by rw [HNC.out]; go_num, HS3⟩
                  case measure => have := HC.out; simp [intOf]; omega
              · have G18 := Lib.hid c18
                clear c18
                have f18n0 : decide ((c : Int) ≤ 15) = false := decide_eq_false G18.out
                by_cases c19 : 20 ≤ (c : Int)
                · have G19 := Lib.hid c19
                  clear c19
                  have f19p0 : decide (20 ≤ (c : Int)) = true := decide_eq_true G19.out
                  have HIN : Hid (inC c = true) := Lib.hid (by unfold inC; simp; have G15o := G15.out; have G16o := G16.out; have G18o := G18.out; have G19o := G19.out; omega)
                  go_wp2_with fail
                  refine (rfname_is c HIN.out (by have := HC.out; omega) _).mono ?_
                  rintro e3 w3 ⟨rfl, hb3⟩
                  have HS3 : Hid (CM w3 MB 29 ∧ Below w.heap.size w w3 ∧ Ch w3 code [] v) := Lib.hid ⟨HS.out.1.below hb3, Below.step HS.out.2.1 hb3, HS.out.2.2.below hb3⟩
                  clear hb3
                  rcases cn_own HIN.out (by have := HC.out; omega) with ⟨_, ho⟩ | ⟨ho, hs⟩
                  · have hz : ((Bs (cn c)).toList == [111, 116, 104, 101, 114]) = true := by rw [eqO, ho]; rfl
                    have HNC : Hid (nc (c + 1) = nc c) := Lib.hid (by
                      show (if inC c = true ∧ cn c ≠ [111, 116, 104, 101, 114] then nc c + 1 else nc c) = _
                      rw [if_neg (fun h => h.2 ho)])
                    clear ho
                    go_wp2_with fail
                    go_roundw
                    case rel => exact ⟨c + 1, by have := HC.out; omega, by go_num, by rw [HNC.out], HS3⟩
                    case measure => have := HC.out; simp [intOf]; omega
                  · have hz : ((Bs (cn c)).toList == [111, 116, 104, 101, 114]) = false := by rw [eqO]; exact beq_eq_false_iff_ne.2 ho
                    have HNC : Hid (nc (c + 1) = nc c + 1) := Lib.hid (by
                      show (if inC c = true ∧ cn c ≠ [111, 116, 104, 101, 114] then nc c + 1 else nc c) = _
                      rw [if_pos ⟨HIN.out, ho⟩])
                    have hlk : (Instr.lookup 45 (.map (some MB)) (.string (Bs (cn c))) false).run Tryz.prog w3 = .ok (.int .i64 (c : Int)) w3 := by
                      have := HS3.out.1.look (cn c) (cn_len c)
                      rwa [hs] at this
                    clear ho hs
                    go_wp2_with fail
                    go_roundw
                    case rel => exact ⟨c + 1, by have := HC.out; omega, by go_num, by rw [HNC.out]; go_num, HS3⟩
                    case measure => have := HC.out; simp [intOf]; omega
                · have G19 := Lib.hid c19
                  clear c19
                  have f19n0 : decide (20 ≤ (c : Int)) = false := decide_eq_false G19.out
                  have HIN : Hid (inC c = false) := Lib.hid (by unfold inC; simp; have G15o := G15.out; have G16o := G16.out; have G18o := G18.out; have G19o := G19.out; omega)
                  have HNC : Hid (nc (c + 1) = nc c) := Lib.hid (by unfold nc; rw [if_neg (by rw [HIN.out]; intro h; cases h.1)]; first | rfl | (cases c <;> rfl))
                  go_wp2_with fail
                  go_roundw
                  case rel => exact ⟨c + 1, by have := HC.out; omega, by go_num, by rw [HNC.out], HS⟩
                  case measure => have := HC.out; simp [intOf]; omega
            · have G17 := Lib.hid c17
              clear c17
              have f17n0 : decide (10 ≤ (c : Int)) = false := decide_eq_false G17.out
              by_cases c20 : 20 ≤ (c : Int)
              · have G20 := Lib.hid c20
                clear c20
                have f20p0 : decide (20 ≤ (c : Int)) = true := decide_eq_true G20.out
                have HIN : Hid (inC c = true) := Lib.hid (by unfold inC; simp; have G15o := G15.out; have G16o := G16.out; have G17o := G17.out; have G20o := G20.out; omega)
                go_wp2_with fail
                refine (rfname_is c HIN.out (by have := HC.out; omega) _).mono ?_
                rintro e3 w3 ⟨rfl, hb3⟩
                have HS3 : Hid (CM w3 MB 29 ∧ Below w.heap.size w w3 ∧ Ch w3 code [] v) := Lib.hid ⟨HS.out.1.below hb3, Below.step HS.out.2.1 hb3, HS.out.2.2.below hb3⟩
                clear hb3
                rcases cn_own HIN.out (by have := HC.out; omega) with ⟨_, ho⟩ | ⟨ho, hs⟩
                · have hz : ((Bs (cn c)).toList == [111, 116, 104, 101, 114]) = true := by rw [eqO, ho]; rfl
                  have HNC : Hid (nc (c + 1) = nc c) := Lib.hid (by
                    show (if inC c = true ∧ cn c ≠ [111, 116, 104, 101, 114] then nc c + 1 else nc c) = _
                    rw [if_neg (fun h => h.2 ho)])
                  clear ho
                  go_wp2_with fail
                  go_roundw
                  case rel => exact ⟨c + 1, by have := HC.out; omega, by go_num, by rw [HNC.out], HS3⟩
                  case measure => have := HC.out; simp [intOf]; omega
                · have hz : ((Bs (cn c)).toList == [111, 116, 104, 101, 114]) = false := by rw [eqO]; exact beq_eq_false_iff_ne.2 ho
                  have HNC : Hid (nc (c + 1) = nc c + 1) := Lib.hid (by
                    show (if inC c = true ∧ cn c ≠ [111, 116, 104, 101, 114] then nc c + 1 else nc c) = _
                    rw [if_pos ⟨HIN.out, ho⟩])
                  have hlk : (Instr.lookup 45 (.map (some MB)) (.string (Bs (cn c))) false).run Tryz.prog w3 = .ok (.int .i64 (c : Int)) w3 := by
                    have := HS3.out.1.look (cn c) (cn_len c)
                    rwa [hs] at this
                  clear ho hs
                  go_wp2_with fail
                  go_roundw
                  case rel => exact ⟨c + 1, by have := HC.out; omega, by go_num, by rw [HNC.out]; go_num, HS3⟩
                  case measure => have := HC.out; simp [intOf]; omega
              · have G20 := Lib.hid c20
                clear c20
                have f20n0 : decide (20 ≤ (c : Int)) = false := decide_eq_false G20.out
                have HIN : Hid (inC c = false) := Lib.hid (by unfold inC; simp; have G15o := G15.out; have G16o := G16.out; have G17o := G17.out; have G20o := G20.out; omega)
                have HNC : Hid (nc (c + 1) = nc c) := Lib.hid (by unfold nc; rw [if_neg (by rw [HIN.out]; intro h; cases h.1)]; first | rfl | (cases c <;> rfl))
                go_wp2_with fail
                go_roundw
                case rel => exact ⟨c + 1, by have := HC.out; omega, by go_num, by rw [HNC.out], HS⟩
                case measure => have := HC.out; simp [intOf]; omega
      · obtain rfl : c = 30 := by omega
        have e30 : nc 30 = 16 := by decide +kernel
        rw [e30]
        have q0 : decide (((30 : Nat) : Int) < 30) = false := by decide
        clear hc hlt e30
        go_wp2_with fail
        refine (awake_is wr (HV.out.below HS.out.2.1) (HT.out.below HS.out.2.1) (HM.out.below HS.out.2.1)).mono ?_
        rintro e5 w5 ⟨rfl, hb5⟩
        have HS5 : Hid (CM w5 MB 29 ∧ Below w.heap.size w w5 ∧ Ch w5 code [] v) := Lib.hid ⟨HS.out.1.below hb5, Below.step HS.out.2.1 hb5, HS.out.2.2.below hb5⟩
        clear hb5
        go_wp2_with fail
        refine (wrong_bare tick code HR.out.1 HR.out.2.1 v w5 HS5.out.2.2 ((HS5.out.2.1.cell (p := ⟨1, 0, none⟩) HGL.out).trans HG.out) (Nat.lt_of_lt_of_le HGL.out HS5.out.2.1.size) (HT.out.below HS5.out.2.1)).mono ?_
        rintro e6 w6 ⟨rfl, hb6⟩
        have HS6 : Hid (CM w6 MB 29 ∧ Below w.heap.size w w6 ∧ Ch w6 code [] v) := Lib.hid ⟨HS5.out.1.below hb6, Below.step HS5.out.2.1 hb6, HS5.out.2.2.below hb6⟩
        clear hb6
        go_wp2_with fail
        refine (rwrong_is tick code 0 HR.out.1 HR.out.2.1 ⟨by decide, by decide⟩ w6).mono ?_
        rintro e7 w7 ⟨rfl, hb7⟩
        have HS7 : Hid (CM w7 MB 29 ∧ Below w.heap.size w w7 ∧ Ch w7 code [] v) := Lib.hid ⟨HS6.out.1.below hb7, Below.step HS6.out.2.1 hb7, HS6.out.2.2.below hb7⟩
        clear hb7
        have hlen := fun ty => HS7.out.1.len ty
        have hlo : (Instr.lookup 45 (.map (some MB)) (.string ⟨#[111, 116, 104, 101, 114]⟩) false).run Tryz.prog w7 = .ok (.int .i64 ((cst 29).1 (cn 1))) w7 := HS7.out.1.look (cn 1) (cn_len 1)
        rw [cst_all.2] at hlo
        simp only [cst_all.1] at hlen
        obtain ⟨WL, hWL⟩ : ∃ WL, WL = wl tick code 0 := ⟨_, rfl⟩
        rw [← hWL]
        clear hWL
        go_wp2_with fail
        go_ret
        exact ⟨rfl, HS7.out.2.1⟩
  | true =>
    go_enter Tryz.func4, Tryz.ntmps4
    go_wp2_with fail
    refine (at_ch at_ [] code _ w (show Ch w code [] _ from rfl)).mono ?_
    rintro e1 w1 ⟨v, rfl, hc1, hb1⟩
    have HB1 : Hid (Below w.heap.size w w1) := Lib.hid hb1
    have HC1 : Hid (Ch w1 code [.pl at_] v) := Lib.hid hc1
    clear hb1 hc1
    go_wp2_with fail
    refine (codes_is _).mono ?_
    rintro e2 w2 ⟨rfl, hc2, hb2⟩
    obtain ⟨MB, hMB⟩ : ∃ MB, MB = w1.heap.size := ⟨_, rfl⟩
    rw [← hMB] at hc2 ⊢
    have HS2 : Hid (CM w2 MB 29 ∧ Below w.heap.size w w2 ∧ Ch w2 code [.pl at_] v) := Lib.hid ⟨hc2, Below.step HB1.out hb2, HC1.out.below hb2⟩
    clear hc2 hb2 hMB
    go_wp2_with fail
    go_loopw [12, 24] (fun n' v' wr => ∃ c : Nat, c ≤ 30 ∧ v' = .int .i64 (c : Int) ∧ n' = .int .i64 (nc c : Int) ∧ Hid (CM wr MB 29 ∧ Below w.heap.size w wr ∧ Ch wr code [.pl at_] v)) (fun _ v' _ => 31 - (intOf v').toNat)
    case atStart => exact ⟨0, by decide, rfl, rfl, HS2⟩
    case round =>
      clear HS2
      obtain ⟨c, hc, rfl, rfl, HS⟩ := hrel
      have i0 : (0 : Int) ≤ (c : Int) := by omega
      by_cases hlt : c < 30
      · have q0 : (c : Int) < 30 := by omega
        have n0 : (nc c : Int) ≤ 30 := by have := nc_le c; omega
        have n1 : (0 : Int) ≤ (nc c : Int) := by omega
        have HC : Hid (c < 30) := Lib.hid hlt
        clear hc hlt
        by_cases c21 : (c : Int) = 1
        · have G21 := Lib.hid c21
          clear c21
          have f21p0 : ((c : Int) == 1) = true := beq_iff_eq.2 G21.out
          have f21p1 : ((c : Int) != 1) = false := by simp [G21.out]
          have HIN : Hid (inC c = true) := Lib.hid (by unfold inC; simp; have G21o := G21.out; omega)
          go_wp2_with fail
          refine (rfname_is c HIN.out (by have := HC.out; omega) _).mono ?_
          rintro e3 w3 ⟨rfl, hb3⟩
          have HS3 : Hid (CM w3 MB 29 ∧ Below w.heap.size w w3 ∧ Ch w3 code [.pl at_] v) := Lib.hid ⟨HS.out.1.below hb3, Below.step HS.out.2.1 hb3, HS.out.2.2.below hb3⟩
          clear hb3
          rcases cn_own HIN.out (by have := HC.out; omega) with ⟨_, ho⟩ | ⟨ho, hs⟩
          · have hz : ((Bs (cn c)).toList == [111, 116, 104, 101, 114]) = true := by rw [eqO, ho]; rfl
            have HNC : Hid (nc (c + 1) = nc c) := Lib.hid (by
              show (if inC c = true ∧ cn c ≠ [111, 116, 104, 101, 114] then nc c + 1 else nc c) = _
              rw [if_neg (fun h => h.2 ho)])
            clear ho
            go_wp2_with fail
            go_roundw
            case rel => exact ⟨c + 1, by have := HC.out; omega, by go_num, by rw [HNC.out], HS3⟩
            case measure => have := HC.out; simp [intOf]; omega
          · have hz : ((Bs (cn c)).toList == [111, 116, 104, 101, 114]) = false := by rw [eqO]; exact beq_eq_false_iff_ne.2 ho
            have HNC : Hid (nc (c + 1) = nc c + 1) := Lib.hid (by
              show (if inC c = true ∧ cn c ≠ [111, 116, 104, 101, 114] then nc c + 1 else nc c) = _
              rw [if_pos ⟨HIN.out, ho⟩])
            have hlk : (Instr.lookup 45 (.map (some MB)) (.string (Bs (cn c))) false).run Tryz.prog w3 = .ok (.int .i64 (c : Int)) w3 := by
              have := HS3.out.1.look (cn c) (cn_len c)
              rwa [hs] at this
            clear ho hs
            go_wp2_with fail
            go_roundw
            case rel => exact ⟨c + 1, by have := HC.out; omega, by go_num, by rw [HNC.out]; go_num, HS3⟩
            case measure => have := HC.out; simp [intOf]; omega
        · have G21 := Lib.hid c21
          clear c21
          have f21n0 : ((c : Int) == 1) = false := beq_eq_false_iff_ne.2 G21.out
          have f21n1 : ((c : Int) != 1) = true := bne_iff_ne.2 G21.out
          by_cases c22 : (c : Int) = 6
          · have G22 := Lib.hid c22
            clear c22
            have f22p0 : ((c : Int) == 6) = true := beq_iff_eq.2 G22.out
            have f22p1 : ((c : Int) != 6) = false := by simp [G22.out]
            have HIN : Hid (inC c = true) := Lib.hid (by unfold inC; simp; have G22o := G22.out; omega)
            go_wp2_with fail
            refine (rfname_is c HIN.out (by have := HC.out; omega) _).mono ?_
            rintro e3 w3 ⟨rfl, hb3⟩
            have HS3 : Hid (CM w3 MB 29 ∧ Below w.heap.size w w3 ∧ Ch w3 code [.pl at_] v) := Lib.hid ⟨HS.out.1.below hb3, Below.step HS.out.2.1 hb3, HS.out.2.2.below hb3⟩
            clear hb3
            rcases cn_own HIN.out (by have := HC.out; omega) with ⟨_, ho⟩ | ⟨ho, hs⟩
            · have hz : ((Bs (cn c)).toList == [111, 116, 104, 101, 114]) = true := by rw [eqO, ho]; rfl
              have HNC : Hid (nc (c + 1) = nc c) := Lib.hid (by
                show (if inC c = true ∧ cn c ≠ [111, 116, 104, 101, 114] then nc c + 1 else nc c) = _
                rw [if_neg (fun h => h.2 ho)])
              clear ho
              go_wp2_with fail
              go_roundw
              case rel => exact ⟨c + 1, by have := HC.out; omega, by go_num, by rw [HNC.out], HS3⟩
              case measure => have := HC.out; simp [intOf]; omega
            · have hz : ((Bs (cn c)).toList == [111, 116, 104, 101, 114]) = false := by rw [eqO]; exact beq_eq_false_iff_ne.2 ho
              have HNC : Hid (nc (c + 1) = nc c + 1) := Lib.hid (by
                show (if inC c = true ∧ cn c ≠ [111, 116, 104, 101, 114] then nc c + 1 else nc c) = _
                rw [if_pos ⟨HIN.out, ho⟩])
              have hlk : (Instr.lookup 45 (.map (some MB)) (.string (Bs (cn c))) false).run Tryz.prog w3 = .ok (.int .i64 (c : Int)) w3 := by
                have := HS3.out.1.look (cn c) (cn_len c)
                rwa [hs] at this
              clear ho hs
              go_wp2_with fail
              go_roundw
              case rel => exact ⟨c + 1, by have := HC.out; omega, by go_num, by rw [HNC.out]; go_num, HS3⟩
              case measure => have := HC.out; simp [intOf]; omega
          · have G22 := Lib.hid c22
            clear c22
            have f22n0 : ((c : Int) == 6) = false := beq_eq_false_iff_ne.2 G22.out
            have f22n1 : ((c : Int) != 6) = true := bne_iff_ne.2 G22.out
            by_cases c23 : 10 ≤ (c : Int)
            · have G23 := Lib.hid c23
              clear c23
              have f23p0 : decide (10 ≤ (c : Int)) = true := decide_eq_true G23.out
              by_cases c24 : (c : Int) ≤ 15
              · have G24 := Lib.hid c24
                clear c24
                have f24p0 : decide ((c : Int) ≤ 15) = true := decide_eq_true G24.out
                have HIN : Hid (inC c = true) := Lib.hid (by unfold inC; simp; have G23o := G23.out; have G24o := G24.out; omega)
                go_wp2_with fail
                refine (rfname_is c HIN.out (by have := HC.out; omega) _).mono ?_
                rintro e3 w3 ⟨rfl, hb3⟩
                have HS3 : Hid (CM w3 MB 29 ∧ Below w.heap.size w w3 ∧ Ch w3 code [.pl at_] v) := Lib.hid ⟨HS.out.1.below hb3, Below.step HS.out.2.1 hb3, HS.out.2.2.below hb3⟩
                clear hb3
                rcases cn_own HIN.out (by have := HC.out; omega) with ⟨_, ho⟩ | ⟨ho, hs⟩
                · have hz : ((Bs (cn c)).toList == [111, 116, 104, 101, 114]) = true := by rw [eqO, ho]; rfl
                  have HNC : Hid (nc (c + 1) = nc c) := Lib.hid (by
                    show (if inC c = true ∧ cn c ≠ [111, 116, 104, 101, 114] then nc c + 1 else nc c) = _
                    rw [if_neg (fun h => h.2 ho)])
                  clear ho
                  go_wp2_with fail
                  go_roundw
                  case rel => exact ⟨c + 1, by have := HC.out; omega, by go_num, by rw [HNC.out], HS3⟩
                  case measure => have := HC.out; simp [intOf]; omega
                · have hz : ((Bs (cn c)).toList == [111, 116, 104, 101, 114]) = false := by rw [eqO]; exact beq_eq_false_iff_ne.2 ho
                  have HNC : Hid (nc (c + 1) = nc c + 1) := Lib.hid (by
                    show (if inC c = true ∧ cn c ≠ [111, 116, 104, 101, 114] then nc c + 1 else nc c) = _
                    rw [if_pos ⟨HIN.out, ho⟩])
                  have hlk : (Instr.lookup 45 (.map (some MB)) (.string (Bs (cn c))) false).run Tryz.prog w3 = .ok (.int .i64 (c : Int)) w3 := by
                    have := HS3.out.1.look (cn c) (cn_len c)
                    rwa [hs] at this
                  clear ho hs
                  go_wp2_with fail
                  go_roundw
                  case rel => exact ⟨c + 1, by have := HC.out; omega, by go_num, by rw [HNC.out]; go_num, HS3⟩
                  case measure => have := HC.out; simp [intOf]; omega
              · have G24 := Lib.hid c24
                clear c24
                have f24n0 : decide ((c : Int) ≤ 15) = false := decide_eq_false G24.out
                by_cases c25 : 20 ≤ (c : Int)
                · have G25 := Lib.hid c25
                  clear c25
                  have f25p0 : decide (20 ≤ (c : Int)) = true := decide_eq_true G25.out
                  have HIN : Hid (inC c = true) := Lib.hid (by unfold inC; simp; have G21o := G21.out; have G22o := G22.out; have G24o := G24.out; have G25o := G25.out; omega)
                  go_wp2_with fail
                  refine (rfname_is c HIN.out (by have := HC.out; omega) _).mono ?_
                  rintro e3 w3 ⟨rfl, hb3⟩
                  have HS3 : Hid (CM w3 MB 29 ∧ Below w.heap.size w w3 ∧ Ch w3 code [.pl at_] v) := Lib.hid ⟨HS.out.1.below hb3, Below.step HS.out.2.1 hb3, HS.out.2.2.below hb3⟩
                  clear hb3
                  rcases cn_own HIN.out (by have := HC.out; omega) with ⟨_, ho⟩ | ⟨ho, hs⟩
                  · have hz : ((Bs (cn c)).toList == [111, 116, 104, 101, 114]) = true := by rw [eqO, ho]; rfl
                    have HNC : Hid (nc (c + 1) = nc c) := Lib.hid (by
                      show (if inC c = true ∧ cn c ≠ [111, 116, 104, 101, 114] then nc c + 1 else nc c) = _
                      rw [if_neg (fun h => h.2 ho)])
                    clear ho
                    go_wp2_with fail
                    go_roundw
                    case rel => exact ⟨c + 1, by have := HC.out; omega, by go_num, by rw [HNC.out], HS3⟩
                    case measure => have := HC.out; simp [intOf]; omega
                  · have hz : ((Bs (cn c)).toList == [111, 116, 104, 101, 114]) = false := by rw [eqO]; exact beq_eq_false_iff_ne.2 ho
                    have HNC : Hid (nc (c + 1) = nc c + 1) := Lib.hid (by
                      show (if inC c = true ∧ cn c ≠ [111, 116, 104, 101, 114] then nc c + 1 else nc c) = _
                      rw [if_pos ⟨HIN.out, ho⟩])
                    have hlk : (Instr.lookup 45 (.map (some MB)) (.string (Bs (cn c))) false).run Tryz.prog w3 = .ok (.int .i64 (c : Int)) w3 := by
                      have := HS3.out.1.look (cn c) (cn_len c)
                      rwa [hs] at this
                    clear ho hs
                    go_wp2_with fail
                    go_roundw
                    case rel => exact ⟨c + 1, by have := HC.out; omega, by go_num, by rw [HNC.out]; go_num, HS3⟩
                    case measure => have := HC.out; simp [intOf]; omega
                · have G25 := Lib.hid c25
                  clear c25
                  have f25n0 : decide (20 ≤ (c : Int)) = false := decide_eq_false G25.out
                  have HIN : Hid (inC c = false) := Lib.hid (by unfold inC; simp; have G21o := G21.out; have G22o := G22.out; have G24o := G24.out; have G25o := G25.out; omega)
                  have HNC : Hid (nc (c + 1) = nc c) := Lib.hid (by unfold nc; rw [if_neg (by rw [HIN.out]; intro h; cases h.1)]; first | rfl | (cases c <;> rfl))
                  go_wp2_with fail
                  go_roundw
                  case rel => exact ⟨c + 1, by have := HC.out; omega, by go_num, by rw [HNC.out], HS⟩
                  case measure => have := HC.out; simp [intOf]; omega
            · have G23 := Lib.hid c23
              clear c23
              have f23n0 : decide (10 ≤ (c : Int)) = false := decide_eq_false G23.out
              by_cases c26 : 20 ≤ (c : Int)
              · have G26 := Lib.hid c26
                clear c26
                have f26p0 : decide (20 ≤ (c : Int)) = true := decide_eq_true G26.out
                have HIN : Hid (inC c = true) := Lib.hid (by unfold inC; simp; have G21o := G21.out; have G22o := G22.out; have G23o := G23.out; have G26o := G26.out; omega)
                go_wp2_with fail
                refine (rfname_is c HIN.out (by have := HC.out; omega) _).mono ?_
                rintro e3 w3 ⟨rfl, hb3⟩
                have HS3 : Hid (CM w3 MB 29 ∧ Below w.heap.size w w3 ∧ Ch w3 code [.pl at_] v) := Lib.hid ⟨HS.out.1.below hb3, Below.step HS.out.2.1 hb3, HS.out.2.2.below hb3⟩
                clear hb3
                rcases cn_own HIN.out (by have := HC.out; omega) with ⟨_, ho⟩ | ⟨ho, hs⟩
                · have hz : ((Bs (cn c)).toList == [111, 116, 104, 101, 114]) = true := by rw [eqO, ho]; rfl
                  have HNC : Hid (nc (c + 1) = nc c) := Lib.hid (by
                    show (if inC c = true ∧ cn c ≠ [111, 116, 104, 101, 114] then nc c + 1 else nc c) = _
                    rw [if_neg (fun h => h.2 ho)])
                  clear ho
                  go_wp2_with fail
                  go_roundw
                  case rel => exact ⟨c + 1, by have := HC.out; omega, by go_num, by rw [HNC.out], HS3⟩
                  case measure => have := HC.out; simp [intOf]; omega
                · have hz : ((Bs (cn c)).toList == [111, 116, 104, 101, 114]) = false := by rw [eqO]; exact beq_eq_false_iff_ne.2 ho
                  have HNC : Hid (nc (c + 1) = nc c + 1) := Lib.hid (by
                    show (if inC c = true ∧ cn c ≠ [111, 116, 104, 101, 114] then nc c + 1 else nc c) = _
                    rw [if_pos ⟨HIN.out, ho⟩])
                  have hlk : (Instr.lookup 45 (.map (some MB)) (.string (Bs (cn c))) false).run Tryz.prog w3 = .ok (.int .i64 (c : Int)) w3 := by
                    have := HS3.out.1.look (cn c) (cn_len c)
                    rwa [hs] at this
                  clear ho hs
                  go_wp2_with fail
                  go_roundw
                  case rel => exact ⟨c + 1, by have := HC.out; omega, by go_num, by rw [HNC.out]; go_num, HS3⟩
                  case measure => have := HC.out; simp [intOf]; omega
              · have G26 := Lib.hid c26
                clear c26
                have f26n0 : decide (20 ≤ (c : Int)) = false := decide_eq_false G26.out
                have HIN : Hid (inC c = false) := Lib.hid (by unfold inC; simp; have G21o := G21.out; have G22o := G22.out; have G23o := G23.out; have G26o := G26.out; omega)
                have HNC : Hid (nc (c + 1) = nc c) := Lib.hid (by unfold nc; rw [if_neg (by rw [HIN.out]; intro h; cases h.1)]; first | rfl | (cases c <;> rfl))
                go_wp2_with fail
                go_roundw
                case rel => exact ⟨c + 1, by have := HC.out; omega, by go_num, by rw [HNC.out], HS⟩
                case measure => have := HC.out; simp [intOf]; omega
      · obtain rfl : c = 30 := by omega
        have e30 : nc 30 = 16 := by decide +kernel
        rw [e30]
        have q0 : decide (((30 : Nat) : Int) < 30) = false := by decide
        clear hc hlt e30
        go_wp2_with fail
        refine (awake_is wr (HV.out.below HS.out.2.1) (HT.out.below HS.out.2.1) (HM.out.below HS.out.2.1)).mono ?_
        rintro e5 w5 ⟨rfl, hb5⟩
        have HS5 : Hid (CM w5 MB 29 ∧ Below w.heap.size w w5 ∧ Ch w5 code [.pl at_] v) := Lib.hid ⟨HS.out.1.below hb5, Below.step HS.out.2.1 hb5, HS.out.2.2.below hb5⟩
        clear hb5
        go_wp2_with fail
        refine (wrong_at tick code at_ HR.out.1 HR.out.2.1 HR.out.2.2 v w5 HS5.out.2.2 ((HS5.out.2.1.cell (p := ⟨1, 0, none⟩) HGL.out).trans HG.out) (Nat.lt_of_lt_of_le HGL.out HS5.out.2.1.size) (HT.out.below HS5.out.2.1)).mono ?_
        rintro e6 w6 ⟨rfl, hb6⟩
        have HS6 : Hid (CM w6 MB 29 ∧ Below w.heap.size w w6 ∧ Ch w6 code [.pl at_] v) := Lib.hid ⟨HS5.out.1.below hb6, Below.step HS5.out.2.1 hb6, HS5.out.2.2.below hb6⟩
        clear hb6
        go_wp2_with fail
        refine (rwrong_is tick code at_ HR.out.1 HR.out.2.1 HR.out.2.2 w6).mono ?_
        rintro e7 w7 ⟨rfl, hb7⟩
        have HS7 : Hid (CM w7 MB 29 ∧ Below w.heap.size w w7 ∧ Ch w7 code [.pl at_] v) := Lib.hid ⟨HS6.out.1.below hb7, Below.step HS6.out.2.1 hb7, HS6.out.2.2.below hb7⟩
        clear hb7
        have hlen := fun ty => HS7.out.1.len ty
        have hlo : (Instr.lookup 45 (.map (some MB)) (.string ⟨#[111, 116, 104, 101, 114]⟩) false).run Tryz.prog w7 = .ok (.int .i64 ((cst 29).1 (cn 1))) w7 := HS7.out.1.look (cn 1) (cn_len 1)
        rw [cst_all.2] at hlo
        simp only [cst_all.1] at hlen
        obtain ⟨WL, hWL⟩ : ∃ WL, WL = wl tick code at_ := ⟨_, rfl⟩
        rw [← hWL]
        clear hWL
        go_wp2_with fail
        go_ret
        exact ⟨rfl, HS7.out.2.1⟩

end Go.Proofs.YtinciphhoieonaaGreatDoor

/-
  PlanLays: the walk.
-/
import Derived.Test.YtdlgpbmeeiakdaaRows
import Derived.Test.YtdlgpbmeeiakdaaKit
import Derived.Test.YtdlgpbmeeiakdaaApp
import Derived.Test.YtdlgpbmeeiakdaaEv
import Derived.Test.YtdlgpbmeeiakdaaEvP
import Derived.Test.YtdlgpbmeeiakdaaEvQ
import Derived.Test.YtdlgpbmeeiakdaaEvR
import Derived.Test.YtdlgpbmeeiakdaaQuiet
import Derived.Test.YtdlgpbmeeiakdaaRules
import Derived.Test.YtdlgpbmeeiakdaaCheck
import Derived.Test.YtdlgpbmeeiakdaaChk2
import Derived.Test.YtdlgpbmeeiakdaaPlA
import Derived.Test.YtdlgpbmeeiakdaaPlB
import Derived.Test.YtdlgpbmeeiakdaaPlC
import Derived.Test.YtdlgpbmeeiakdaaPlD
import Derived.Test.YtdlgpbmeeiakdaaPlE
import Derived.Test.YtdlgpbmeeiakdaaPlF
import Derived.Test.YtdlgpbmeeiakdaaPlI
import Derived.Test.YtdlgpbmeeiakdaaPlJ
import Derived.Test.YtdlgpbmeeiakdaaPlK
import Derived.Test.YtdlgpbmeeiakdaaPlanLaysB
import Derived.WalkKit
import Derived.ProofKit
import Derived.OpenShut
import Derived.ShutString
import Derived.Below
import Derived.Outline
import Derived.WalkLawsBesides
import Derived.WalkSpells
import Derived.Handy
import Derived.Deep.QuietTactic
import Derived.BigQuiet
import Derived.RegionTactic
import Derived.ChangeAlike
import Derived.Lib.Hide
import Derived.Laws.Rows
import Derived.Laws.Tables
import Derived.Laws.CopyOwn
import Derived.Laws.MakeOwn
import Derived.Laws.Entries
import Derived.Laws.OwnMore
import Derived.Deep.WholeRow
import Derived.Deep.LoopGhost
import Derived.Deep.AppendLies
import Derived.Deep.Draws
import Derived.Maps.AppendAt
import Derived.OwnWalk
import Derived.Deep.RegionHeld3
import Derived.Deep.Cut
import Derived.Deep.CutRange
import Derived.Deep.DeepCutAuto
import Derived.Deep.CutBlock
import Derived.Lib.SliceRun
import Derived.IntWalk
namespace Go.Proofs.Ytdlgpbmeeiakdaa.planLays
open Go.ChangeShapes Go.WideShapes Go.ChangeAt Go.RowKit
set_option maxRecDepth 100000 in
set_option maxHeartbeats 16000000 in
theorem main_a (p c nn b r f g ag n : Int) (m NB K : Nat) (A3 : Option Addr) (cap3 : Nat) (numbers : List Int) (A4 : Option Addr) (cap4 : Nat) (W : List Int) (w : World) (hp : 1 ≤ p ∧ p ≤ 6) (hc : 1 ≤ c ∧ c ≤ 4) (hn : 1 ≤ nn ∧ nn ≤ 3) (hb : 1 ≤ b ∧ b ≤ 4) (hr : 0 ≤ r ∧ r ≤ 4) (hf : 1 ≤ f ∧ f ≤ 4) (hg : 1 ≤ g ∧ g ≤ 15)
    (hm : (m : Int) = p + 2 * (nn * b)) (hI3 : IAt w A3 numbers) (hl3 : numbers.length ≤ 200) (hI4 : IAt w A4 W) (hl4 : W.length ≤ 20) (hNB : (NB : Int) = max 0 (min n 65536)) (hK : (K : Int) = max 0 (min n 64)) (hyp : n ≤ 0) :
    Calls Try.prog 4 #[.agg #[.int .i64 p, .int .i64 c, .int .i64 nn, .int .i64 b, .int .i64 r, .int .i64 f, .int .i64 g], .int .i64 ag, .int .i64 n, .slice A3 numbers.length cap3, .slice A4 W.length cap4] w fun e w' => e = .returned (.bool true) ∧ Below w.heap.size w w' := by
  have hnb := mul12 hn hb
  obtain ⟨j0, hj, hj0, hj1, hj2⟩ := info_parts infoI
  have HJ := Lib.hid hj
  have HJ0 := Lib.hid hj0
  have HJ1 := Lib.hid hj1
  have HJ2 := Lib.hid hj2
  have HN := Lib.hid (fun W => rnew_ok p c nn b r f g W hp hc hn hb hr hf hg)
  have HCK := Lib.hid (fun W => check_ok p c nn b r f g W hp hc hn hb hr hf hg)
  have H3 := Lib.hid hI3
  have H4 := Lib.hid hI4
  have hK64 : K ≤ 64 := by omega
  have HBU := Lib.hid (fun Wd => show Calls Try.prog 19 #[.int .i64 ag, .int .i64 n] Wd (ERow Wd.heap.size ((List.replicate NB ag).map ev3) Wd) from by rw [List.map_replicate]; exact burst_is ag n NB Wd hNB)
  have HRD := Lib.hid (fun Wd => show Calls Try.prog 22 #[.agg #[.int .i64 p, .int .i64 c, .int .i64 nn, .int .i64 b, .int .i64 r, .int .i64 f, .int .i64 g], .int .i64 (0)] Wd (ERow (Wd.heap.size + 1) ((rI m (K * m)).map ev3) Wd) from by rw [← rI_rnd, show (0 : Int) = (K : Int) from by omega]; exact round_is p c nn b r f g m K Wd hm hnb hp hK64)
  have HDR := Lib.hid (fun Wd (h : IAt Wd A3 numbers) => drawn_is p c nn b r f g m A3 cap3 numbers Wd h hl3 hm hnb hp)
  have HWE := Lib.hid (fun Wd (h : IAt Wd A4 W) => show Calls Try.prog 23 #[.slice A4 W.length cap4, .int .i64 (0)] Wd (ERow Wd.heap.size ((wk W K).map ev3) Wd) from by rw [show (0 : Int) = (K : Int) from by omega]; exact weighted_is A4 cap4 W K Wd h hl4 hK64)
  have HSM := Lib.hid (fun (X : List Int) (A : Option Addr) (c : Nat) (B : Option Addr) (cb : Nat) (Wd : World) (h : EAt Wd A (X.map ev3)) (hI : IAt Wd B X) (hl : X.length ≤ 200000) => show Calls Try.prog 20 #[.slice A X.length c, .slice B X.length cb] Wd fun e w' => e = .returned (.bool true) ∧ Below Wd.heap.size Wd w' from by have h2 := same_is A c (X.map ev3) B cb X Wd h hI (sm_ev3 X) hl; rw [List.length_map] at h2; exact h2)
  have HRP := Lib.hid (fun (x : Int) Wd => refpick_is x (m : Int) Wd (by omega) (by omega))
  have HB14 := Lib.hid (show (List.replicate NB ag).length ≤ 200000 from by rw [List.length_replicate]; omega)
  have HB15 := Lib.hid (show (rI m (K * m)).length ≤ 200000 from by rw [rI_len]; have : K * m ≤ 64 * 30 := Nat.mul_le_mul hK64 (by omega); omega)
  have HB16 := Lib.hid (show (numbers.map (fun x => pkS x (m : Int))).length ≤ 200000 from by rw [List.length_map]; omega)
  have HB17 := Lib.hid (show (wk W K).length ≤ 200000 from Nat.le_trans (wk_len W K) (Nat.le_trans (Nat.mul_le_mul hK64 (Nat.mul_le_mul (Nat.le_refl 64) hl4)) (by omega)))
  have hnb2 : 2 * nn * b = (m : Int) - p := by rw [hm, Int.mul_assoc]; omega
  have hpm : p + ((m : Int) - p) = (m : Int) := by omega
  have m2 : m ≤ 30 := by omega
  have m0 : (0 : Int) ≤ (m : Int) := by omega
  have m1 : (m : Int) ≤ 30 := by omega
  have HNB := Lib.hid hNB
  have HK := Lib.hid hK
  obtain ⟨p0, p1⟩ := hp
  obtain ⟨n0, n1⟩ := hn
  have mp : p ≤ (m : Int) := by omega
  have l3 : (numbers.length : Int) ≤ 200 := by omega
  have l4 : (W.length : Int) ≤ 20 := by omega
  have l3d : decide ((200 : Int) < (numbers.length : Int)) = false := decide_eq_false (by omega)
  have l4d : decide ((20 : Int) < (W.length : Int)) = false := decide_eq_false (by omega)
  have bx0 := Blk7.new w p c nn b r f g 23
  clear hI3 hI4 hm hnb hc hb hr hf hg hj hj0 hj1 hj2 hNB hK
  go_enter Try.func4, Try.ntmps4
  go_wp2_with fail
  refine (HN.out _).mono ?_
  rintro e w1 ⟨rfl, hb1⟩
  have bx1 := bx0.below hb1
  have hB1 : Below w.heap.size w w1 := Below.step (by go_grown) hb1
  clear hb1 bx0
  have hB1a := hB1.alloc hB1.size (.cells #[.int .i64 p, .int .i64 c, .int .i64 nn, .int .i64 b, .int .i64 r, .int .i64 f, .int .i64 g] 25)
  have bC1 := bx1.below (show Below w1.heap.size w1 (w1.alloc (.cells #[.int .i64 p, .int .i64 c, .int .i64 nn, .int .i64 b, .int .i64 r, .int .i64 f, .int .i64 g] 25)) from by go_grown)
  have bR1 := Blk7.new w1 p c nn b r f g 25
  obtain ⟨⟨c0, c1, c2, c3, c4, c5, c6⟩, hlx⟩ := id bx1
  go_wp2_with fail
  refine (HCK.out _).mono ?_
  rintro e w2 ⟨rfl, hb2⟩
  have hB2 : Below w.heap.size w w2 := Below.step hB1a hb2
  have bC2 := bC1.below hb2
  have bR2 := bR1.below hb2
  clear hb2 bC1 bR1 bx1 c0 c1 c2 c3 c4 c5 c6 hlx hB1 hB1a
  obtain ⟨⟨c0, c1, c2, c3, c4, c5, c6⟩, hlx⟩ := id bC2
  go_wp2_with fail
  clear c0 c1 c2 c3 c4 c5 c6 hlx hpm hnb2 bC2
  go_loopw [14, 63] (fun v i wr => ∃ k : Nat, k ≤ NB ∧ i = .int .i64 (k : Int) ∧ Hid (One w2.heap.size wr v (List.replicate k ag)) ∧ Below w2.heap.size w2 wr) (fun _ i _ => NB + 1 - (intOf i).toNat)
  case atStart => exact ⟨0, Nat.zero_le _, rfl, One.nil _ _, Below.refl _ _⟩
  case round =>
    obtain ⟨k, hk, rfl, HO, hB⟩ := hrel
    have k0 : (0 : Int) ≤ (k : Int) := by omega
    by_cases hkl : k < NB
    · exfalso
      have := HNB.out
      omega
    · obtain rfl : NB = k := by omega
      have hd : decide ((NB : Int) < 0) = false := decide_eq_false (by have := HNB.out; omega)
      have bR3 := bR2.below hB
      have hB3 := Below.step hB2 hB
      have hO14 := HO.out
      generalize List.replicate NB ag = X14 at *
      clear hB HO hB2 bR2
      obtain ⟨WB, rfl⟩ : ∃ WB, WB = wr := ⟨wr, rfl⟩
      obtain ⟨A14, c14, rfl⟩ := own_shape hO14
      have I14 := Lib.hid (IAt.of_own hO14)
      clear hO14
      go_wp2_with fail
      go_loopw [15, 17, 74] (fun v u i wr => ∃ q : Nat, q ≤ K ∧ i = .int .i64 (q : Int) ∧ Hid (Two WB.heap.size wr v (rI m (q * m)) u (wk W q)) ∧ Below WB.heap.size WB wr) (fun _ _ i _ => K + 1 - (intOf i).toNat)
      case atStart => exact ⟨0, Nat.zero_le _, rfl, by rw [Nat.zero_mul]; exact ⟨One.nil _ _, One.nil _ _, fun g h => by cases h⟩, Below.refl _ _⟩
      case round =>
        obtain ⟨q, hq, rfl, HT, hB⟩ := hrel
        have q0 : (0 : Int) ≤ (q : Int) := by omega
        by_cases hql : q < K
        · exfalso
          have := HK.out
          omega
        · obtain rfl : K = q := by omega
          have hdq : decide ((K : Int) < 0) = false := decide_eq_false (by have := HK.out; omega)
          have bR4 := bR3.below hB
          have hB4 := Below.step hB3 hB
          obtain ⟨hO15, hO17, _⟩ := HT.out
          generalize rI m (K * m) = X15 at *
          generalize wk W K = X17 at *
          have I14b := Lib.hid (I14.out.below hB)
          clear hB HT hB3 bR3 I14
          obtain ⟨WC, rfl⟩ : ∃ WC, WC = wr := ⟨wr, rfl⟩
          obtain ⟨A15, c15, rfl⟩ := own_shape hO15
          obtain ⟨A17, c17, rfl⟩ := own_shape hO17
          have I15 := Lib.hid (IAt.of_own hO15)
          have I17 := Lib.hid (IAt.of_own hO17)
          clear hO15 hO17
          go_wp2_with fail
          go_loopw [16, 106] (fun v i wr => ∃ k : Nat, k ≤ numbers.length ∧ i = .int .i64 (k : Int) ∧ Hid (One WC.heap.size wr v ((numbers.take k).map (fun x => pkS x (m : Int)))) ∧ Below WC.heap.size WC wr) (fun _ i _ => numbers.length + 1 - (intOf i).toNat)
          case atStart => exact ⟨0, Nat.zero_le _, rfl, One.nil _ _, Below.refl _ _⟩
          case round =>
            obtain ⟨k, hk, rfl, HO, hB⟩ := hrel
            have k0 : (0 : Int) ≤ (k : Int) := by omega
            by_cases hkl : k < numbers.length
            · have k1 : (k : Int) < (numbers.length : Int) := by omega
              obtain ⟨x, hx⟩ : ∃ e, numbers[k]? = some e := ⟨_, List.getElem?_eq_getElem hkl⟩
              obtain ⟨ad, hA, hadl, hcx⟩ := (H3.out.below (Below.step hB4 hB)) k x hx
              subst hA
              have HSN := Lib.hid (show (numbers.take (k + 1)).map (fun x => pkS x (m : Int)) = (numbers.take k).map (fun x => pkS x (m : Int)) ++ [pkS x (m : Int)] from by rw [List.take_add_one, hx, List.map_append]; rfl)
              clear hx
              generalize hy : pkS x (m : Int) = y at HSN
              go_wp2_with fail
              refine (HRP.out x _).mono ?_
              rw [hy]
              rintro e wq ⟨rfl, hbq⟩
              have HOq := Lib.hid (HO.out.below hbq)
              have hBq := Below.step hB hbq
              clear HO hB hbq
              have hB := hBq
              have N1 := Lib.hid (show ((numbers.take k).map (fun x => pkS x (m : Int))).length + 1 ≤ maxLen from by rw [List.length_map, List.length_take]; unfold maxLen; omega)
              have N2 := Lib.hid (show (((numbers.take k).map (fun x => pkS x (m : Int))).length + 1) * 8 ≤ 140737488355328 from by rw [List.length_map, List.length_take]; omega)
              have HR := Lib.hid (reads_newN wq 1 1 [.int .i64 y] 3 rfl)
              have HO1 := Lib.hid (World.ownsRow.alloc HOq.out (Obj.cells #[.int .i64 y] 3))
              have N3 := Lib.hid (show WC.heap.size ≤ (wq.alloc (Obj.cells #[.int .i64 y] 3)).heap.size from by have h := hB.size; simp; omega)
              have NV := Lib.hid (ints_oneCell .i64 [y])
              have hBA := hB.alloc hB.size (Obj.cells #[.int .i64 y] 3)
              go_wp2_with (at_builtin; refine wpList_append_any _ rfl (.tmp 110) (.tmp 114) 35 rfl WC.heap.size 3 j0 (.int .i64 0) 1 8 Try.underlying35 HJ.out HJ0.out HJ1.out HJ2.out rfl (by decide) _ ((numbers.take k).map (fun x => pkS x (m : Int))).length (((numbers.take k).map (fun x => pkS x (m : Int))).map (Value.int .i64)) rfl HO1.out _ (some ⟨wq.heap.size, 0, none⟩) 1 1 _ rfl HR.out NV.out N1.out N2.out N3.out ?_; intro v3 w3 hown3 hgrow3 hblk3; have HP := Lib.hid (And.intro hown3 (And.intro hgrow3 hblk3)); clear hown3 hgrow3 hblk3)
              go_roundw
              case rel => exact ⟨k + 1, by omega, by go_num, by refine Lib.hid ?_; rw [HSN.out]; exact One.app HP.out.1, Below.grown hBA HP.out.2.1 hBA.size (fun g e => (HO1.out.lt g e).1)⟩
              case measure => simp [intOf]; omega
            · obtain rfl : k = numbers.length := by omega
              have hdk : decide ((numbers.length : Int) < (numbers.length : Int)) = false := decide_eq_false (by omega)
              have bR0 := bR4.below hB
              have hB0 := Below.step hB4 hB
              have hO16 := HO.out
              rw [List.take_length] at hO16
              generalize numbers.map (fun x => pkS x (m : Int)) = X16 at *
              have I14_0 := Lib.hid (I14b.out.below hB)
              have I15_0 := Lib.hid (I15.out.below hB)
              have I17_0 := Lib.hid (I17.out.below hB)
              obtain ⟨A16, c16, rfl⟩ := own_shape hO16
              have I16_0 := Lib.hid (IAt.of_own hO16)
              have IL_0 := Lib.hid (H3.out.below hB0)
              have IW_0 := Lib.hid (H4.out.below hB0)
              clear hB HO hB4 bR4 hO16 I14b I15 I17
              by_cases hag : ag < 0
              · go_wp2_with fail
                refine (awake21 _).mono ?_
                rintro e ws ⟨rfl, hb⟩
                have hB1 := Below.step hB0 hb
                have bR1 := bR0.below hb
                have I14_1 := Lib.hid (I14_0.out.below hb)
                have I15_1 := Lib.hid (I15_0.out.below hb)
                have I16_1 := Lib.hid (I16_0.out.below hb)
                have I17_1 := Lib.hid (I17_0.out.below hb)
                have IL_1 := Lib.hid (IL_0.out.below hb)
                have IW_1 := Lib.hid (IW_0.out.below hb)
                clear hb hB0 bR0 I14_0 I15_0 I16_0 I17_0 IL_0 IW_0
                go_wp2_with fail
                refine (HBU.out _).mono ?_
                rintro e ws ⟨v, rfl, hO, hb⟩
                obtain ⟨E14, e14, rfl⟩ := own_shape hO
                clear hO
                have hB2 := Below.step hB1 hb
                have bR2 := bR1.below hb
                have I14_2 := Lib.hid (I14_1.out.below hb)
                have I15_2 := Lib.hid (I15_1.out.below hb)
                have I16_2 := Lib.hid (I16_1.out.below hb)
                have I17_2 := Lib.hid (I17_1.out.below hb)
                have IL_2 := Lib.hid (IL_1.out.below hb)
                have IW_2 := Lib.hid (IW_1.out.below hb)
                clear hb hB1 bR1 I14_1 I15_1 I16_1 I17_1 IL_1 IW_1
                obtain ⟨⟨c0, c1, c2, c3, c4, c5, c6⟩, hlR⟩ := id bR2
                have hNN : ((X14.length : Int) == (X14.length : Int)) = true := by simp
                go_wp2_with fail
                refine (HDR.out _ IL_2.out).mono ?_
                clear c0 c1 c2 c3 c4 c5 c6 hlR
                rintro e ws ⟨v, rfl, hO, hb⟩
                obtain ⟨E16, e16, rfl⟩ := own_shape hO
                have HE := Lib.hid (EAt.of_own hO)
                clear hO
                have hB3 := Below.step hB2 hb
                have bR3 := bR2.below hb
                have I14_3 := Lib.hid (I14_2.out.below hb)
                have I15_3 := Lib.hid (I15_2.out.below hb)
                have I16_3 := Lib.hid (I16_2.out.below hb)
                have I17_3 := Lib.hid (I17_2.out.below hb)
                have IL_3 := Lib.hid (IL_2.out.below hb)
                have IW_3 := Lib.hid (IW_2.out.below hb)
                clear hb hB2 bR2 I14_2 I15_2 I16_2 I17_2 IL_2 IW_2
                go_wp2_with fail
                refine (HSM.out X16 E16 e16 A16 c16 _ HE.out I16_3.out (by first | exact HB14.out | exact HB15.out | exact HB16.out | exact HB17.out)).mono ?_
                rintro e ws ⟨rfl, hb⟩
                clear HE
                have hB4 := Below.step hB3 hb
                have bR4 := bR3.below hb
                have I14_4 := Lib.hid (I14_3.out.below hb)
                have I15_4 := Lib.hid (I15_3.out.below hb)
                have I16_4 := Lib.hid (I16_3.out.below hb)
                have I17_4 := Lib.hid (I17_3.out.below hb)
                have IL_4 := Lib.hid (IL_3.out.below hb)
                have IW_4 := Lib.hid (IW_3.out.below hb)
                clear hb hB3 bR3 I14_3 I15_3 I16_3 I17_3 IL_3 IW_3
                go_wp2_with fail
                go_ret
                exact ⟨rfl, hB4⟩
              · have hagd : decide (ag < 0) = false := decide_eq_false hag
                go_wp2_with fail
                refine (awake21 _).mono ?_
                rintro e ws ⟨rfl, hb⟩
                have hB1 := Below.step hB0 hb
                have bR1 := bR0.below hb
                have I14_1 := Lib.hid (I14_0.out.below hb)
                have I15_1 := Lib.hid (I15_0.out.below hb)
                have I16_1 := Lib.hid (I16_0.out.below hb)
                have I17_1 := Lib.hid (I17_0.out.below hb)
                have IL_1 := Lib.hid (IL_0.out.below hb)
                have IW_1 := Lib.hid (IW_0.out.below hb)
                clear hb hB0 bR0 I14_0 I15_0 I16_0 I17_0 IL_0 IW_0
                go_wp2_with fail
                refine (HBU.out _).mono ?_
                rintro e ws ⟨v, rfl, hO, hb⟩
                obtain ⟨E14, e14, rfl⟩ := own_shape hO
                have HE := Lib.hid (EAt.of_own hO)
                clear hO
                have hB2 := Below.step hB1 hb
                have bR2 := bR1.below hb
                have I14_2 := Lib.hid (I14_1.out.below hb)
                have I15_2 := Lib.hid (I15_1.out.below hb)
                have I16_2 := Lib.hid (I16_1.out.below hb)
                have I17_2 := Lib.hid (I17_1.out.below hb)
                have IL_2 := Lib.hid (IL_1.out.below hb)
                have IW_2 := Lib.hid (IW_1.out.below hb)
                clear hb hB1 bR1 I14_1 I15_1 I16_1 I17_1 IL_1 IW_1
                go_wp2_with fail
                refine (HSM.out X14 E14 e14 A14 c14 _ HE.out I14_2.out (by first | exact HB14.out | exact HB15.out | exact HB16.out | exact HB17.out)).mono ?_
                rintro e ws ⟨rfl, hb⟩
                clear HE
                have hB3 := Below.step hB2 hb
                have bR3 := bR2.below hb
                have I14_3 := Lib.hid (I14_2.out.below hb)
                have I15_3 := Lib.hid (I15_2.out.below hb)
                have I16_3 := Lib.hid (I16_2.out.below hb)
                have I17_3 := Lib.hid (I17_2.out.below hb)
                have IL_3 := Lib.hid (IL_2.out.below hb)
                have IW_3 := Lib.hid (IW_2.out.below hb)
                clear hb hB2 bR2 I14_2 I15_2 I16_2 I17_2 IL_2 IW_2
                obtain ⟨⟨c0, c1, c2, c3, c4, c5, c6⟩, hlR⟩ := id bR3
                go_wp2_with fail
                refine (HRD.out _).mono ?_
                clear c0 c1 c2 c3 c4 c5 c6 hlR
                rintro e ws ⟨v, rfl, hO, hb⟩
                obtain ⟨E15, e15, rfl⟩ := own_shape hO
                have HE := Lib.hid (EAt.of_own hO)
                clear hO
                have hB4 := Below.step hB3 hb
                have bR4 := bR3.below hb
                have I14_4 := Lib.hid (I14_3.out.below hb)
                have I15_4 := Lib.hid (I15_3.out.below hb)
                have I16_4 := Lib.hid (I16_3.out.below hb)
                have I17_4 := Lib.hid (I17_3.out.below hb)
                have IL_4 := Lib.hid (IL_3.out.below hb)
                have IW_4 := Lib.hid (IW_3.out.below hb)
                clear hb hB3 bR3 I14_3 I15_3 I16_3 I17_3 IL_3 IW_3
                go_wp2_with fail
                refine (HSM.out X15 E15 e15 A15 c15 _ HE.out I15_4.out (by first | exact HB14.out | exact HB15.out | exact HB16.out | exact HB17.out)).mono ?_
                rintro e ws ⟨rfl, hb⟩
                clear HE
                have hB5 := Below.step hB4 hb
                have bR5 := bR4.below hb
                have I14_5 := Lib.hid (I14_4.out.below hb)
                have I15_5 := Lib.hid (I15_4.out.below hb)
                have I16_5 := Lib.hid (I16_4.out.below hb)
                have I17_5 := Lib.hid (I17_4.out.below hb)
                have IL_5 := Lib.hid (IL_4.out.below hb)
                have IW_5 := Lib.hid (IW_4.out.below hb)
                clear hb hB4 bR4 I14_4 I15_4 I16_4 I17_4 IL_4 IW_4
                obtain ⟨⟨c0, c1, c2, c3, c4, c5, c6⟩, hlR⟩ := id bR5
                go_wp2_with fail
                refine (HDR.out _ IL_5.out).mono ?_
                clear c0 c1 c2 c3 c4 c5 c6 hlR
                rintro e ws ⟨v, rfl, hO, hb⟩
                obtain ⟨E16, e16, rfl⟩ := own_shape hO
                have HE := Lib.hid (EAt.of_own hO)
                clear hO
                have hB6 := Below.step hB5 hb
                have bR6 := bR5.below hb
                have I14_6 := Lib.hid (I14_5.out.below hb)
                have I15_6 := Lib.hid (I15_5.out.below hb)
                have I16_6 := Lib.hid (I16_5.out.below hb)
                have I17_6 := Lib.hid (I17_5.out.below hb)
                have IL_6 := Lib.hid (IL_5.out.below hb)
                have IW_6 := Lib.hid (IW_5.out.below hb)
                clear hb hB5 bR5 I14_5 I15_5 I16_5 I17_5 IL_5 IW_5
                go_wp2_with fail
                refine (HSM.out X16 E16 e16 A16 c16 _ HE.out I16_6.out (by first | exact HB14.out | exact HB15.out | exact HB16.out | exact HB17.out)).mono ?_
                rintro e ws ⟨rfl, hb⟩
                clear HE
                have hB7 := Below.step hB6 hb
                have bR7 := bR6.below hb
                have I14_7 := Lib.hid (I14_6.out.below hb)
                have I15_7 := Lib.hid (I15_6.out.below hb)
                have I16_7 := Lib.hid (I16_6.out.below hb)
                have I17_7 := Lib.hid (I17_6.out.below hb)
                have IL_7 := Lib.hid (IL_6.out.below hb)
                have IW_7 := Lib.hid (IW_6.out.below hb)
                clear hb hB6 bR6 I14_6 I15_6 I16_6 I17_6 IL_6 IW_6
                go_wp2_with fail
                refine (HWE.out _ IW_7.out).mono ?_
                rintro e ws ⟨v, rfl, hO, hb⟩
                obtain ⟨E17, e17, rfl⟩ := own_shape hO
                have HE := Lib.hid (EAt.of_own hO)
                clear hO
                have hB8 := Below.step hB7 hb
                have bR8 := bR7.below hb
                have I14_8 := Lib.hid (I14_7.out.below hb)
                have I15_8 := Lib.hid (I15_7.out.below hb)
                have I16_8 := Lib.hid (I16_7.out.below hb)
                have I17_8 := Lib.hid (I17_7.out.below hb)
                have IL_8 := Lib.hid (IL_7.out.below hb)
                have IW_8 := Lib.hid (IW_7.out.below hb)
                clear hb hB7 bR7 I14_7 I15_7 I16_7 I17_7 IL_7 IW_7
                go_wp2_with fail
                refine (HSM.out X17 E17 e17 A17 c17 _ HE.out I17_8.out (by first | exact HB14.out | exact HB15.out | exact HB16.out | exact HB17.out)).mono ?_
                rintro e ws ⟨rfl, hb⟩
                clear HE
                have hB9 := Below.step hB8 hb
                have bR9 := bR8.below hb
                have I14_9 := Lib.hid (I14_8.out.below hb)
                have I15_9 := Lib.hid (I15_8.out.below hb)
                have I16_9 := Lib.hid (I16_8.out.below hb)
                have I17_9 := Lib.hid (I17_8.out.below hb)
                have IL_9 := Lib.hid (IL_8.out.below hb)
                have IW_9 := Lib.hid (IW_8.out.below hb)
                clear hb hB8 bR8 I14_8 I15_8 I16_8 I17_8 IL_8 IW_8
                go_wp2_with fail
                go_ret
                exact ⟨rfl, hB9⟩
set_option maxRecDepth 100000 in
set_option maxHeartbeats 16000000 in
theorem main_b (p c nn b r f g ag n : Int) (m NB K : Nat) (A3 : Option Addr) (cap3 : Nat) (numbers : List Int) (A4 : Option Addr) (cap4 : Nat) (W : List Int) (w : World) (hp : 1 ≤ p ∧ p ≤ 6) (hc : 1 ≤ c ∧ c ≤ 4) (hn : 1 ≤ nn ∧ nn ≤ 3) (hb : 1 ≤ b ∧ b ≤ 4) (hr : 0 ≤ r ∧ r ≤ 4) (hf : 1 ≤ f ∧ f ≤ 4) (hg : 1 ≤ g ∧ g ≤ 15)
    (hm : (m : Int) = p + 2 * (nn * b)) (hI3 : IAt w A3 numbers) (hl3 : numbers.length ≤ 200) (hI4 : IAt w A4 W) (hl4 : W.length ≤ 20) (hNB : (NB : Int) = max 0 (min n 65536)) (hK : (K : Int) = max 0 (min n 64)) (hyp : 0 < n ∧ n ≤ 64) :
    Calls Try.prog 4 #[.agg #[.int .i64 p, .int .i64 c, .int .i64 nn, .int .i64 b, .int .i64 r, .int .i64 f, .int .i64 g], .int .i64 ag, .int .i64 n, .slice A3 numbers.length cap3, .slice A4 W.length cap4] w fun e w' => e = .returned (.bool true) ∧ Below w.heap.size w w' := by
  have hnb := mul12 hn hb
  obtain ⟨j0, hj, hj0, hj1, hj2⟩ := info_parts infoI
  have HJ := Lib.hid hj
  have HJ0 := Lib.hid hj0
  have HJ1 := Lib.hid hj1
  have HJ2 := Lib.hid hj2
  have HN := Lib.hid (fun W => rnew_ok p c nn b r f g W hp hc hn hb hr hf hg)
  have HCK := Lib.hid (fun W => check_ok p c nn b r f g W hp hc hn hb hr hf hg)
  have H3 := Lib.hid hI3
  have H4 := Lib.hid hI4
  have hK64 : K ≤ 64 := by omega
  have HBU := Lib.hid (fun Wd => show Calls Try.prog 19 #[.int .i64 ag, .int .i64 n] Wd (ERow Wd.heap.size ((List.replicate NB ag).map ev3) Wd) from by rw [List.map_replicate]; exact burst_is ag n NB Wd hNB)
  have HRD := Lib.hid (fun Wd => show Calls Try.prog 22 #[.agg #[.int .i64 p, .int .i64 c, .int .i64 nn, .int .i64 b, .int .i64 r, .int .i64 f, .int .i64 g], .int .i64 (n)] Wd (ERow (Wd.heap.size + 1) ((rI m (K * m)).map ev3) Wd) from by rw [← rI_rnd, show (n : Int) = (K : Int) from by omega]; exact round_is p c nn b r f g m K Wd hm hnb hp hK64)
  have HDR := Lib.hid (fun Wd (h : IAt Wd A3 numbers) => drawn_is p c nn b r f g m A3 cap3 numbers Wd h hl3 hm hnb hp)
  have HWE := Lib.hid (fun Wd (h : IAt Wd A4 W) => show Calls Try.prog 23 #[.slice A4 W.length cap4, .int .i64 (n)] Wd (ERow Wd.heap.size ((wk W K).map ev3) Wd) from by rw [show (n : Int) = (K : Int) from by omega]; exact weighted_is A4 cap4 W K Wd h hl4 hK64)
  have HSM := Lib.hid (fun (X : List Int) (A : Option Addr) (c : Nat) (B : Option Addr) (cb : Nat) (Wd : World) (h : EAt Wd A (X.map ev3)) (hI : IAt Wd B X) (hl : X.length ≤ 200000) => show Calls Try.prog 20 #[.slice A X.length c, .slice B X.length cb] Wd fun e w' => e = .returned (.bool true) ∧ Below Wd.heap.size Wd w' from by have h2 := same_is A c (X.map ev3) B cb X Wd h hI (sm_ev3 X) hl; rw [List.length_map] at h2; exact h2)
  have HRP := Lib.hid (fun (x : Int) Wd => refpick_is x (m : Int) Wd (by omega) (by omega))
  have HB14 := Lib.hid (show (List.replicate NB ag).length ≤ 200000 from by rw [List.length_replicate]; omega)
  have HB15 := Lib.hid (show (rI m (K * m)).length ≤ 200000 from by rw [rI_len]; have : K * m ≤ 64 * 30 := Nat.mul_le_mul hK64 (by omega); omega)
  have HB16 := Lib.hid (show (numbers.map (fun x => pkS x (m : Int))).length ≤ 200000 from by rw [List.length_map]; omega)
  have HB17 := Lib.hid (show (wk W K).length ≤ 200000 from Nat.le_trans (wk_len W K) (Nat.le_trans (Nat.mul_le_mul hK64 (Nat.mul_le_mul (Nat.le_refl 64) hl4)) (by omega)))
  have hnb2 : 2 * nn * b = (m : Int) - p := by rw [hm, Int.mul_assoc]; omega
  have hpm : p + ((m : Int) - p) = (m : Int) := by omega
  have m2 : m ≤ 30 := by omega
  have m0 : (0 : Int) ≤ (m : Int) := by omega
  have m1 : (m : Int) ≤ 30 := by omega
  have HNB := Lib.hid hNB
  have HK := Lib.hid hK
  obtain ⟨p0, p1⟩ := hp
  obtain ⟨n0, n1⟩ := hn
  have mp : p ≤ (m : Int) := by omega
  have l3 : (numbers.length : Int) ≤ 200 := by omega
  have l4 : (W.length : Int) ≤ 20 := by omega
  have l3d : decide ((200 : Int) < (numbers.length : Int)) = false := decide_eq_false (by omega)
  have l4d : decide ((20 : Int) < (W.length : Int)) = false := decide_eq_false (by omega)
  have bx0 := Blk7.new w p c nn b r f g 23
  clear hI3 hI4 hm hnb hc hb hr hf hg hj hj0 hj1 hj2 hNB hK
  go_enter Try.func4, Try.ntmps4
  go_wp2_with fail
  refine (HN.out _).mono ?_
  rintro e w1 ⟨rfl, hb1⟩
  have bx1 := bx0.below hb1
  have hB1 : Below w.heap.size w w1 := Below.step (by go_grown) hb1
  clear hb1 bx0
  have hB1a := hB1.alloc hB1.size (.cells #[.int .i64 p, .int .i64 c, .int .i64 nn, .int .i64 b, .int .i64 r, .int .i64 f, .int .i64 g] 25)
  have bC1 := bx1.below (show Below w1.heap.size w1 (w1.alloc (.cells #[.int .i64 p, .int .i64 c, .int .i64 nn, .int .i64 b, .int .i64 r, .int .i64 f, .int .i64 g] 25)) from by go_grown)
  have bR1 := Blk7.new w1 p c nn b r f g 25
  obtain ⟨⟨c0, c1, c2, c3, c4, c5, c6⟩, hlx⟩ := id bx1
  go_wp2_with fail
  refine (HCK.out _).mono ?_
  rintro e w2 ⟨rfl, hb2⟩
  have hB2 : Below w.heap.size w w2 := Below.step hB1a hb2
  have bC2 := bC1.below hb2
  have bR2 := bR1.below hb2
  clear hb2 bC1 bR1 bx1 c0 c1 c2 c3 c4 c5 c6 hlx hB1 hB1a
  obtain ⟨⟨c0, c1, c2, c3, c4, c5, c6⟩, hlx⟩ := id bC2
  go_wp2_with fail
  clear c0 c1 c2 c3 c4 c5 c6 hlx hpm hnb2 bC2
  go_loopw [14, 63] (fun v i wr => ∃ k : Nat, k ≤ NB ∧ i = .int .i64 (k : Int) ∧ Hid (One w2.heap.size wr v (List.replicate k ag)) ∧ Below w2.heap.size w2 wr) (fun _ i _ => NB + 1 - (intOf i).toNat)
  case atStart => exact ⟨0, Nat.zero_le _, rfl, One.nil _ _, Below.refl _ _⟩
  case round =>
    obtain ⟨k, hk, rfl, HO, hB⟩ := hrel
    have k0 : (0 : Int) ≤ (k : Int) := by omega
    by_cases hkl : k < NB
    · have k1 : (k : Int) < n := by have := HNB.out; omega
      have k9 : (k : Int) ≤ 65536 := by have := HNB.out; omega
      have HSN := Lib.hid (show List.replicate (k + 1) ag = List.replicate k ag ++ [ag] from List.replicate_succ')
      have N1 := Lib.hid (show (List.replicate k ag).length + 1 ≤ maxLen from by rw [List.length_replicate]; unfold maxLen; omega)
      have N2 := Lib.hid (show ((List.replicate k ag).length + 1) * 8 ≤ 140737488355328 from by rw [List.length_replicate]; omega)
      have HR := Lib.hid (reads_newN wr 1 1 [.int .i64 ag] 3 rfl)
      have HO1 := Lib.hid (World.ownsRow.alloc HO.out (Obj.cells #[.int .i64 ag] 3))
      have N3 := Lib.hid (show w2.heap.size ≤ (wr.alloc (Obj.cells #[.int .i64 ag] 3)).heap.size from by have h := hB.size; simp; omega)
      have NV := Lib.hid (ints_oneCell .i64 [ag])
      have hBA := hB.alloc hB.size (Obj.cells #[.int .i64 ag] 3)
      go_wp2_with (at_builtin; refine wpList_append_any _ rfl (.tmp 65) (.tmp 67) 35 rfl w2.heap.size 3 j0 (.int .i64 0) 1 8 Try.underlying35 HJ.out HJ0.out HJ1.out HJ2.out rfl (by decide) _ (List.replicate k ag).length ((List.replicate k ag).map (Value.int .i64)) rfl HO1.out _ (some ⟨wr.heap.size, 0, none⟩) 1 1 _ rfl HR.out NV.out N1.out N2.out N3.out ?_; intro v3 w3 hown3 hgrow3 hblk3; have HP := Lib.hid (And.intro hown3 (And.intro hgrow3 hblk3)); clear hown3 hgrow3 hblk3)
      go_roundw
      case rel => exact ⟨k + 1, by omega, by go_num, by refine Lib.hid ?_; rw [HSN.out]; exact One.app HP.out.1, Below.grown hBA HP.out.2.1 hBA.size (fun g e => (HO1.out.lt g e).1)⟩
      case measure => simp [intOf]; omega
    · obtain rfl : NB = k := by omega
      have hd : decide ((NB : Int) < n) = false := decide_eq_false (by have := HNB.out; omega)
      have bR3 := bR2.below hB
      have hB3 := Below.step hB2 hB
      have hO14 := HO.out
      generalize List.replicate NB ag = X14 at *
      clear hB HO hB2 bR2
      obtain ⟨WB, rfl⟩ : ∃ WB, WB = wr := ⟨wr, rfl⟩
      obtain ⟨A14, c14, rfl⟩ := own_shape hO14
      have I14 := Lib.hid (IAt.of_own hO14)
      clear hO14
      go_wp2_with fail
      go_loopw [15, 17, 74] (fun v u i wr => ∃ q : Nat, q ≤ K ∧ i = .int .i64 (q : Int) ∧ Hid (Two WB.heap.size wr v (rI m (q * m)) u (wk W q)) ∧ Below WB.heap.size WB wr) (fun _ _ i _ => K + 1 - (intOf i).toNat)
      case atStart => exact ⟨0, Nat.zero_le _, rfl, by rw [Nat.zero_mul]; exact ⟨One.nil _ _, One.nil _ _, fun g h => by cases h⟩, Below.refl _ _⟩
      case round =>
        obtain ⟨q, hq, rfl, HT, hB⟩ := hrel
        have q0 : (0 : Int) ≤ (q : Int) := by omega
        by_cases hql : q < K
        · have q1 : (q : Int) < n := by have := HK.out; omega
          have q9 : (q : Int) ≤ 64 := by have := HK.out; omega
          have HQL := Lib.hid (show (wk W q).length ≤ 64 * (64 * 20) from Nat.le_trans (wk_len W q) (Nat.mul_le_mul (by omega) (by omega)))
          have HQM := Lib.hid (show q * m ≤ 64 * 30 from Nat.mul_le_mul (by omega) (by omega))
          go_wp2_with fail
          go_loopw [15, 77] (fun v i wr => ∃ j : Nat, j ≤ m ∧ i = .int .i64 (j : Int) ∧ Hid (Two WB.heap.size wr v (rI m (q * m + j)) u17 (wk W q)) ∧ Below WB.heap.size WB wr) (fun _ i _ => m + 1 - (intOf i).toNat)
          case atStart => exact ⟨0, Nat.zero_le _, rfl, HT, hB⟩
          case round =>
           clear HT hB
           obtain ⟨j, hj, rfl, HT, hB⟩ := hrel
           have j0' : (0 : Int) ≤ (j : Int) := by omega
           by_cases hjm : j < m
           · have j1 : (j : Int) < (m : Int) := by omega
             have HSN := Lib.hid (rI_next m q j hjm)
             have N1 := Lib.hid (show (rI m (q * m + j)).length + 1 ≤ maxLen from by rw [rI_len]; have := HQM.out; unfold maxLen; omega)
             have N2 := Lib.hid (show ((rI m (q * m + j)).length + 1) * 8 ≤ 140737488355328 from by rw [rI_len]; have := HQM.out; omega)
             have HR := Lib.hid (reads_newN wr 1 1 [.int .i64 (j : Int)] 3 rfl)
             have HO1 := Lib.hid (World.ownsRow.alloc HT.out.1 (Obj.cells #[.int .i64 (j : Int)] 3))
             have N3 := Lib.hid (show WB.heap.size ≤ (wr.alloc (Obj.cells #[.int .i64 (j : Int)] 3)).heap.size from by have h := hB.size; simp; omega)
             have NV := Lib.hid (ints_oneCell .i64 [(j : Int)])
             have hBA := hB.alloc hB.size (Obj.cells #[.int .i64 (j : Int)] 3)
             go_wp2_with (at_builtin; refine wpList_append_any _ rfl (.tmp 80) (.tmp 82) 35 rfl WB.heap.size 3 j0 (.int .i64 0) 1 8 Try.underlying35 HJ.out HJ0.out HJ1.out HJ2.out rfl (by decide) _ (rI m (q * m + j)).length ((rI m (q * m + j)).map (Value.int .i64)) rfl HO1.out _ (some ⟨wr.heap.size, 0, none⟩) 1 1 _ rfl HR.out NV.out N1.out N2.out N3.out ?_; intro v3 w3 hown3 hgrow3 hblk3; have HP := Lib.hid (And.intro hown3 (And.intro hgrow3 hblk3)); clear hown3 hgrow3 hblk3)
             go_roundw
             case rel => exact ⟨j + 1, by omega, by go_num, by refine Lib.hid ?_; rw [HSN.out]; exact Two.app HT.out HP.out.1 HP.out.2.1 HP.out.2.2, Below.grown hBA HP.out.2.1 hBA.size (fun g e => (HO1.out.lt g e).1)⟩
             case measure => simp [intOf]; omega
           · obtain rfl : m = j := by omega
             have hd2 : decide ((m : Int) < (m : Int)) = false := decide_eq_false (by omega)
             go_wp2_with fail
             go_loopw [17, 87] (fun u i wr => ∃ t : Nat, t ≤ W.length ∧ i = .int .i64 (t : Int) ∧ Hid (Two WB.heap.size wr u15 (rI m (q * m + m)) u (wk W q ++ wl W t)) ∧ Below WB.heap.size WB wr) (fun _ i _ => W.length + 1 - (intOf i).toNat)
             case atStart => exact ⟨0, Nat.zero_le _, rfl, by show Hid (Two _ _ _ _ _ (wk W q ++ [])); rw [List.append_nil]; exact HT, hB⟩
             case round =>
              clear HT hB
              obtain ⟨t, ht, rfl, HT, hB⟩ := hrel
              have t0 : (0 : Int) ≤ (t : Int) := by omega
              by_cases htl : t < W.length
              · have t1 : (t : Int) < (W.length : Int) := by omega
                obtain ⟨x, hx⟩ : ∃ e, W[t]? = some e := ⟨_, List.getElem?_eq_getElem htl⟩
                obtain ⟨ad, hA, hadl, hcx⟩ := (H4.out.below (Below.step hB3 hB)) t x hx
                subst hA
                have HXL := Lib.hid (show (wk W q ++ wl W t).length ≤ 99000 from by rw [List.length_append]; have := HQL.out; have := wl_len W t; omega)
                have HNX := Lib.hid (show wk W q ++ wl W (t + 1) = (wk W q ++ wl W t) ++ List.replicate (wnum x) (t : Int) from by rw [wl_next W t x hx, List.append_assoc])
                clear hx
                generalize wk W q ++ wl W t = Y at *
                by_cases hx0 : x ≤ 0
                · have HWN := Lib.hid (show (wnum x : Int) = 0 from by unfold wnum; omega)
                  go_wp2_with fail
                  go_loopw [17, 95] (fun u i wr => ∃ s : Nat, s ≤ wnum x ∧ i = .int .i64 (s : Int) ∧ Hid (Two WB.heap.size wr u15 (rI m (q * m + m)) u (Y ++ List.replicate s (t : Int))) ∧ Below WB.heap.size WB wr) (fun _ i _ => wnum x + 1 - (intOf i).toNat)
                  case atStart => exact ⟨0, Nat.zero_le _, rfl, by rw [List.replicate_zero, List.append_nil]; exact HT, hB⟩
                  case round =>
                    clear HT hB
                    obtain ⟨s, hs, rfl, HT, hB⟩ := hrel
                    have s0 : (0 : Int) ≤ (s : Int) := by omega
                    by_cases hsl : s < wnum x
                    · exfalso
                      have := HWN.out
                      omega
                    · obtain rfl : s = wnum x := by omega
                      have s1d : decide (((wnum x : Nat) : Int) < 0) = false := decide_eq_false (by have := HWN.out; omega)
                      go_wp2_with fail
                      go_roundw
                      case rel => exact ⟨t + 1, by omega, by go_num, by rw [HNX.out]; exact HT, hB⟩
                      case measure => simp [intOf]; omega
                · by_cases hx64 : x ≤ 64
                  · have hx1 : 0 < x := by omega
                    have HWN := Lib.hid (show (wnum x : Int) = x from by unfold wnum; omega)
                    go_wp2_with fail
                    go_loopw [17, 95] (fun u i wr => ∃ s : Nat, s ≤ wnum x ∧ i = .int .i64 (s : Int) ∧ Hid (Two WB.heap.size wr u15 (rI m (q * m + m)) u (Y ++ List.replicate s (t : Int))) ∧ Below WB.heap.size WB wr) (fun _ i _ => wnum x + 1 - (intOf i).toNat)
                    case atStart => exact ⟨0, Nat.zero_le _, rfl, by rw [List.replicate_zero, List.append_nil]; exact HT, hB⟩
                    case round =>
                      clear HT hB
                      obtain ⟨s, hs, rfl, HT, hB⟩ := hrel
                      have s0 : (0 : Int) ≤ (s : Int) := by omega
                      by_cases hsl : s < wnum x
                      · have s1 : (s : Int) < x := by have := HWN.out; omega
                        have HYL := Lib.hid (show (Y ++ List.replicate s (t : Int)).length ≤ 100000 from by rw [List.length_append, List.length_replicate]; have := HXL.out; have := wnum_le x; omega)
                        have HSN := Lib.hid (show Y ++ List.replicate (s + 1) (t : Int) = (Y ++ List.replicate s (t : Int)) ++ [(t : Int)] from by rw [List.replicate_succ', List.append_assoc])
                        have N1 := Lib.hid (show (Y ++ List.replicate s (t : Int)).length + 1 ≤ maxLen from by have := HYL.out; unfold maxLen; omega)
                        have N2 := Lib.hid (show ((Y ++ List.replicate s (t : Int)).length + 1) * 8 ≤ 140737488355328 from by have := HYL.out; omega)
                        have HR := Lib.hid (reads_newN wr 1 1 [.int .i64 (t : Int)] 3 rfl)
                        have HO1 := Lib.hid (World.ownsRow.alloc HT.out.2.1 (Obj.cells #[.int .i64 (t : Int)] 3))
                        have N3 := Lib.hid (show WB.heap.size ≤ (wr.alloc (Obj.cells #[.int .i64 (t : Int)] 3)).heap.size from by have h := hB.size; simp; omega)
                        have NV := Lib.hid (ints_oneCell .i64 [(t : Int)])
                        have hBA := hB.alloc hB.size (Obj.cells #[.int .i64 (t : Int)] 3)
                        go_wp2_with (at_builtin; refine wpList_append_any _ rfl (.tmp 97) (.tmp 99) 35 rfl WB.heap.size 3 j0 (.int .i64 0) 1 8 Try.underlying35 HJ.out HJ0.out HJ1.out HJ2.out rfl (by decide) _ (Y ++ List.replicate s (t : Int)).length ((Y ++ List.replicate s (t : Int)).map (Value.int .i64)) rfl HO1.out _ (some ⟨wr.heap.size, 0, none⟩) 1 1 _ rfl HR.out NV.out N1.out N2.out N3.out ?_; intro v3 w3 hown3 hgrow3 hblk3; have HP := Lib.hid (And.intro hown3 (And.intro hgrow3 hblk3)); clear hown3 hgrow3 hblk3)
                        go_roundw
                        case rel => exact ⟨s + 1, by omega, by go_num, by refine Lib.hid ?_; rw [HSN.out]; exact (Two.app HT.out.swap HP.out.1 HP.out.2.1 HP.out.2.2).swap, Below.grown hBA HP.out.2.1 hBA.size (fun g e => (HO1.out.lt g e).1)⟩
                        case measure => simp [intOf]; omega
                      · obtain rfl : s = wnum x := by omega
                        have s1d : decide (((wnum x : Nat) : Int) < x) = false := decide_eq_false (by have := HWN.out; omega)
                        go_wp2_with fail
                        go_roundw
                        case rel => exact ⟨t + 1, by omega, by go_num, by rw [HNX.out]; exact HT, hB⟩
                        case measure => simp [intOf]; omega
                  · have hx1 : 64 < x := by omega
                    have HWN := Lib.hid (show (wnum x : Int) = 64 from by unfold wnum; omega)
                    go_wp2_with fail
                    go_loopw [17, 95] (fun u i wr => ∃ s : Nat, s ≤ wnum x ∧ i = .int .i64 (s : Int) ∧ Hid (Two WB.heap.size wr u15 (rI m (q * m + m)) u (Y ++ List.replicate s (t : Int))) ∧ Below WB.heap.size WB wr) (fun _ i _ => wnum x + 1 - (intOf i).toNat)
                    case atStart => exact ⟨0, Nat.zero_le _, rfl, by rw [List.replicate_zero, List.append_nil]; exact HT, hB⟩
                    case round =>
                      clear HT hB
                      obtain ⟨s, hs, rfl, HT, hB⟩ := hrel
                      have s0 : (0 : Int) ≤ (s : Int) := by omega
                      by_cases hsl : s < wnum x
                      · have s1 : (s : Int) < 64 := by have := HWN.out; omega
                        have HYL := Lib.hid (show (Y ++ List.replicate s (t : Int)).length ≤ 100000 from by rw [List.length_append, List.length_replicate]; have := HXL.out; have := wnum_le x; omega)
                        have HSN := Lib.hid (show Y ++ List.replicate (s + 1) (t : Int) = (Y ++ List.replicate s (t : Int)) ++ [(t : Int)] from by rw [List.replicate_succ', List.append_assoc])
                        have N1 := Lib.hid (show (Y ++ List.replicate s (t : Int)).length + 1 ≤ maxLen from by have := HYL.out; unfold maxLen; omega)
                        have N2 := Lib.hid (show ((Y ++ List.replicate s (t : Int)).length + 1) * 8 ≤ 140737488355328 from by have := HYL.out; omega)
                        have HR := Lib.hid (reads_newN wr 1 1 [.int .i64 (t : Int)] 3 rfl)
                        have HO1 := Lib.hid (World.ownsRow.alloc HT.out.2.1 (Obj.cells #[.int .i64 (t : Int)] 3))
                        have N3 := Lib.hid (show WB.heap.size ≤ (wr.alloc (Obj.cells #[.int .i64 (t : Int)] 3)).heap.size from by have h := hB.size; simp; omega)
                        have NV := Lib.hid (ints_oneCell .i64 [(t : Int)])
                        have hBA := hB.alloc hB.size (Obj.cells #[.int .i64 (t : Int)] 3)
                        go_wp2_with (at_builtin; refine wpList_append_any _ rfl (.tmp 97) (.tmp 99) 35 rfl WB.heap.size 3 j0 (.int .i64 0) 1 8 Try.underlying35 HJ.out HJ0.out HJ1.out HJ2.out rfl (by decide) _ (Y ++ List.replicate s (t : Int)).length ((Y ++ List.replicate s (t : Int)).map (Value.int .i64)) rfl HO1.out _ (some ⟨wr.heap.size, 0, none⟩) 1 1 _ rfl HR.out NV.out N1.out N2.out N3.out ?_; intro v3 w3 hown3 hgrow3 hblk3; have HP := Lib.hid (And.intro hown3 (And.intro hgrow3 hblk3)); clear hown3 hgrow3 hblk3)
                        go_roundw
                        case rel => exact ⟨s + 1, by omega, by go_num, by refine Lib.hid ?_; rw [HSN.out]; exact (Two.app HT.out.swap HP.out.1 HP.out.2.1 HP.out.2.2).swap, Below.grown hBA HP.out.2.1 hBA.size (fun g e => (HO1.out.lt g e).1)⟩
                        case measure => simp [intOf]; omega
                      · obtain rfl : s = wnum x := by omega
                        have s1d : decide (((wnum x : Nat) : Int) < 64) = false := decide_eq_false (by have := HWN.out; omega)
                        go_wp2_with fail
                        go_roundw
                        case rel => exact ⟨t + 1, by omega, by go_num, by rw [HNX.out]; exact HT, hB⟩
                        case measure => simp [intOf]; omega
              · obtain rfl : t = W.length := by omega
                have hd4 : decide ((W.length : Int) < (W.length : Int)) = false := decide_eq_false (by omega)
                go_wp2_with fail
                go_roundw
                case rel => exact ⟨q + 1, by omega, by go_num, by rw [Nat.add_mul q 1, Nat.one_mul]; exact HT, hB⟩
                case measure => simp [intOf]; omega
        · obtain rfl : K = q := by omega
          have hdq : decide ((K : Int) < n) = false := decide_eq_false (by have := HK.out; omega)
          have bR4 := bR3.below hB
          have hB4 := Below.step hB3 hB
          obtain ⟨hO15, hO17, _⟩ := HT.out
          generalize rI m (K * m) = X15 at *
          generalize wk W K = X17 at *
          have I14b := Lib.hid (I14.out.below hB)
          clear hB HT hB3 bR3 I14
          obtain ⟨WC, rfl⟩ : ∃ WC, WC = wr := ⟨wr, rfl⟩
          obtain ⟨A15, c15, rfl⟩ := own_shape hO15
          obtain ⟨A17, c17, rfl⟩ := own_shape hO17
          have I15 := Lib.hid (IAt.of_own hO15)
          have I17 := Lib.hid (IAt.of_own hO17)
          clear hO15 hO17
          go_wp2_with fail
          go_loopw [16, 106] (fun v i wr => ∃ k : Nat, k ≤ numbers.length ∧ i = .int .i64 (k : Int) ∧ Hid (One WC.heap.size wr v ((numbers.take k).map (fun x => pkS x (m : Int)))) ∧ Below WC.heap.size WC wr) (fun _ i _ => numbers.length + 1 - (intOf i).toNat)
          case atStart => exact ⟨0, Nat.zero_le _, rfl, One.nil _ _, Below.refl _ _⟩
          case round =>
            obtain ⟨k, hk, rfl, HO, hB⟩ := hrel
            have k0 : (0 : Int) ≤ (k : Int) := by omega
            by_cases hkl : k < numbers.length
            · have k1 : (k : Int) < (numbers.length : Int) := by omega
              obtain ⟨x, hx⟩ : ∃ e, numbers[k]? = some e := ⟨_, List.getElem?_eq_getElem hkl⟩
              obtain ⟨ad, hA, hadl, hcx⟩ := (H3.out.below (Below.step hB4 hB)) k x hx
              subst hA
              have HSN := Lib.hid (show (numbers.take (k + 1)).map (fun x => pkS x (m : Int)) = (numbers.take k).map (fun x => pkS x (m : Int)) ++ [pkS x (m : Int)] from by rw [List.take_add_one, hx, List.map_append]; rfl)
              clear hx
              generalize hy : pkS x (m : Int) = y at HSN
              go_wp2_with fail
              refine (HRP.out x _).mono ?_
              rw [hy]
              rintro e wq ⟨rfl, hbq⟩
              have HOq := Lib.hid (HO.out.below hbq)
              have hBq := Below.step hB hbq
              clear HO hB hbq
              have hB := hBq
              have N1 := Lib.hid (show ((numbers.take k).map (fun x => pkS x (m : Int))).length + 1 ≤ maxLen from by rw [List.length_map, List.length_take]; unfold maxLen; omega)
              have N2 := Lib.hid (show (((numbers.take k).map (fun x => pkS x (m : Int))).length + 1) * 8 ≤ 140737488355328 from by rw [List.length_map, List.length_take]; omega)
              have HR := Lib.hid (reads_newN wq 1 1 [.int .i64 y] 3 rfl)
              have HO1 := Lib.hid (World.ownsRow.alloc HOq.out (Obj.cells #[.int .i64 y] 3))
              have N3 := Lib.hid (show WC.heap.size ≤ (wq.alloc (Obj.cells #[.int .i64 y] 3)).heap.size from by have h := hB.size; simp; omega)
              have NV := Lib.hid (ints_oneCell .i64 [y])
              have hBA := hB.alloc hB.size (Obj.cells #[.int .i64 y] 3)
              go_wp2_with (at_builtin; refine wpList_append_any _ rfl (.tmp 110) (.tmp 114) 35 rfl WC.heap.size 3 j0 (.int .i64 0) 1 8 Try.underlying35 HJ.out HJ0.out HJ1.out HJ2.out rfl (by decide) _ ((numbers.take k).map (fun x => pkS x (m : Int))).length (((numbers.take k).map (fun x => pkS x (m : Int))).map (Value.int .i64)) rfl HO1.out _ (some ⟨wq.heap.size, 0, none⟩) 1 1 _ rfl HR.out NV.out N1.out N2.out N3.out ?_; intro v3 w3 hown3 hgrow3 hblk3; have HP := Lib.hid (And.intro hown3 (And.intro hgrow3 hblk3)); clear hown3 hgrow3 hblk3)
              go_roundw
              case rel => exact ⟨k + 1, by omega, by go_num, by refine Lib.hid ?_; rw [HSN.out]; exact One.app HP.out.1, Below.grown hBA HP.out.2.1 hBA.size (fun g e => (HO1.out.lt g e).1)⟩
              case measure => simp [intOf]; omega
            · obtain rfl : k = numbers.length := by omega
              have hdk : decide ((numbers.length : Int) < (numbers.length : Int)) = false := decide_eq_false (by omega)
              have bR0 := bR4.below hB
              have hB0 := Below.step hB4 hB
              have hO16 := HO.out
              rw [List.take_length] at hO16
              generalize numbers.map (fun x => pkS x (m : Int)) = X16 at *
              have I14_0 := Lib.hid (I14b.out.below hB)
              have I15_0 := Lib.hid (I15.out.below hB)
              have I17_0 := Lib.hid (I17.out.below hB)
              obtain ⟨A16, c16, rfl⟩ := own_shape hO16
              have I16_0 := Lib.hid (IAt.of_own hO16)
              have IL_0 := Lib.hid (H3.out.below hB0)
              have IW_0 := Lib.hid (H4.out.below hB0)
              clear hB HO hB4 bR4 hO16 I14b I15 I17
              by_cases hag : ag < 0
              · go_wp2_with fail
                refine (awake21 _).mono ?_
                rintro e ws ⟨rfl, hb⟩
                have hB1 := Below.step hB0 hb
                have bR1 := bR0.below hb
                have I14_1 := Lib.hid (I14_0.out.below hb)
                have I15_1 := Lib.hid (I15_0.out.below hb)
                have I16_1 := Lib.hid (I16_0.out.below hb)
                have I17_1 := Lib.hid (I17_0.out.below hb)
                have IL_1 := Lib.hid (IL_0.out.below hb)
                have IW_1 := Lib.hid (IW_0.out.below hb)
                clear hb hB0 bR0 I14_0 I15_0 I16_0 I17_0 IL_0 IW_0
                go_wp2_with fail
                refine (HBU.out _).mono ?_
                rintro e ws ⟨v, rfl, hO, hb⟩
                obtain ⟨E14, e14, rfl⟩ := own_shape hO
                clear hO
                have hB2 := Below.step hB1 hb
                have bR2 := bR1.below hb
                have I14_2 := Lib.hid (I14_1.out.below hb)
                have I15_2 := Lib.hid (I15_1.out.below hb)
                have I16_2 := Lib.hid (I16_1.out.below hb)
                have I17_2 := Lib.hid (I17_1.out.below hb)
                have IL_2 := Lib.hid (IL_1.out.below hb)
                have IW_2 := Lib.hid (IW_1.out.below hb)
                clear hb hB1 bR1 I14_1 I15_1 I16_1 I17_1 IL_1 IW_1
                obtain ⟨⟨c0, c1, c2, c3, c4, c5, c6⟩, hlR⟩ := id bR2
                have hNN : ((X14.length : Int) == (X14.length : Int)) = true := by simp
                go_wp2_with fail
                refine (HDR.out _ IL_2.out).mono ?_
                clear c0 c1 c2 c3 c4 c5 c6 hlR
                rintro e ws ⟨v, rfl, hO, hb⟩
                obtain ⟨E16, e16, rfl⟩ := own_shape hO
                have HE := Lib.hid (EAt.of_own hO)
                clear hO
                have hB3 := Below.step hB2 hb
                have bR3 := bR2.below hb
                have I14_3 := Lib.hid (I14_2.out.below hb)
                have I15_3 := Lib.hid (I15_2.out.below hb)
                have I16_3 := Lib.hid (I16_2.out.below hb)
                have I17_3 := Lib.hid (I17_2.out.below hb)
                have IL_3 := Lib.hid (IL_2.out.below hb)
                have IW_3 := Lib.hid (IW_2.out.below hb)
                clear hb hB2 bR2 I14_2 I15_2 I16_2 I17_2 IL_2 IW_2
                go_wp2_with fail
                refine (HSM.out X16 E16 e16 A16 c16 _ HE.out I16_3.out (by first | exact HB14.out | exact HB15.out | exact HB16.out | exact HB17.out)).mono ?_
                rintro e ws ⟨rfl, hb⟩
                clear HE
                have hB4 := Below.step hB3 hb
                have bR4 := bR3.below hb
                have I14_4 := Lib.hid (I14_3.out.below hb)
                have I15_4 := Lib.hid (I15_3.out.below hb)
                have I16_4 := Lib.hid (I16_3.out.below hb)
                have I17_4 := Lib.hid (I17_3.out.below hb)
                have IL_4 := Lib.hid (IL_3.out.below hb)
                have IW_4 := Lib.hid (IW_3.out.below hb)
                clear hb hB3 bR3 I14_3 I15_3 I16_3 I17_3 IL_3 IW_3
                go_wp2_with fail
                go_ret
                exact ⟨rfl, hB4⟩
              · have hagd : decide (ag < 0) = false := decide_eq_false hag
                go_wp2_with fail
                refine (awake21 _).mono ?_
                rintro e ws ⟨rfl, hb⟩
                have hB1 := Below.step hB0 hb
                have bR1 := bR0.below hb
                have I14_1 := Lib.hid (I14_0.out.below hb)
                have I15_1 := Lib.hid (I15_0.out.below hb)
                have I16_1 := Lib.hid (I16_0.out.below hb)
                have I17_1 := Lib.hid (I17_0.out.below hb)
                have IL_1 := Lib.hid (IL_0.out.below hb)
                have IW_1 := Lib.hid (IW_0.out.below hb)
                clear hb hB0 bR0 I14_0 I15_0 I16_0 I17_0 IL_0 IW_0
                go_wp2_with fail
                refine (HBU.out _).mono ?_
                rintro e ws ⟨v, rfl, hO, hb⟩
                obtain ⟨E14, e14, rfl⟩ := own_shape hO
                have HE := Lib.hid (EAt.of_own hO)
                clear hO
                have hB2 := Below.step hB1 hb
                have bR2 := bR1.below hb
                have I14_2 := Lib.hid (I14_1.out.below hb)
                have I15_2 := Lib.hid (I15_1.out.below hb)
                have I16_2 := Lib.hid (I16_1.out.below hb)
                have I17_2 := Lib.hid (I17_1.out.below hb)
                have IL_2 := Lib.hid (IL_1.out.below hb)
                have IW_2 := Lib.hid (IW_1.out.below hb)
                clear hb hB1 bR1 I14_1 I15_1 I16_1 I17_1 IL_1 IW_1
                go_wp2_with fail
                refine (HSM.out X14 E14 e14 A14 c14 _ HE.out I14_2.out (by first | exact HB14.out | exact HB15.out | exact HB16.out | exact HB17.out)).mono ?_
                rintro e ws ⟨rfl, hb⟩
                clear HE
                have hB3 := Below.step hB2 hb
                have bR3 := bR2.below hb
                have I14_3 := Lib.hid (I14_2.out.below hb)
                have I15_3 := Lib.hid (I15_2.out.below hb)
                have I16_3 := Lib.hid (I16_2.out.below hb)
                have I17_3 := Lib.hid (I17_2.out.below hb)
                have IL_3 := Lib.hid (IL_2.out.below hb)
                have IW_3 := Lib.hid (IW_2.out.below hb)
                clear hb hB2 bR2 I14_2 I15_2 I16_2 I17_2 IL_2 IW_2
                obtain ⟨⟨c0, c1, c2, c3, c4, c5, c6⟩, hlR⟩ := id bR3
                go_wp2_with fail
                refine (HRD.out _).mono ?_
                clear c0 c1 c2 c3 c4 c5 c6 hlR
                rintro e ws ⟨v, rfl, hO, hb⟩
                obtain ⟨E15, e15, rfl⟩ := own_shape hO
                have HE := Lib.hid (EAt.of_own hO)
                clear hO
                have hB4 := Below.step hB3 hb
                have bR4 := bR3.below hb
                have I14_4 := Lib.hid (I14_3.out.below hb)
                have I15_4 := Lib.hid (I15_3.out.below hb)
                have I16_4 := Lib.hid (I16_3.out.below hb)
                have I17_4 := Lib.hid (I17_3.out.below hb)
                have IL_4 := Lib.hid (IL_3.out.below hb)
                have IW_4 := Lib.hid (IW_3.out.below hb)
                clear hb hB3 bR3 I14_3 I15_3 I16_3 I17_3 IL_3 IW_3
                go_wp2_with fail
                refine (HSM.out X15 E15 e15 A15 c15 _ HE.out I15_4.out (by first | exact HB14.out | exact HB15.out | exact HB16.out | exact HB17.out)).mono ?_
                rintro e ws ⟨rfl, hb⟩
                clear HE
                have hB5 := Below.step hB4 hb
                have bR5 := bR4.below hb
                have I14_5 := Lib.hid (I14_4.out.below hb)
                have I15_5 := Lib.hid (I15_4.out.below hb)
                have I16_5 := Lib.hid (I16_4.out.below hb)
                have I17_5 := Lib.hid (I17_4.out.below hb)
                have IL_5 := Lib.hid (IL_4.out.below hb)
                have IW_5 := Lib.hid (IW_4.out.below hb)
                clear hb hB4 bR4 I14_4 I15_4 I16_4 I17_4 IL_4 IW_4
                obtain ⟨⟨c0, c1, c2, c3, c4, c5, c6⟩, hlR⟩ := id bR5
                go_wp2_with fail
                refine (HDR.out _ IL_5.out).mono ?_
                clear c0 c1 c2 c3 c4 c5 c6 hlR
                rintro e ws ⟨v, rfl, hO, hb⟩
                obtain ⟨E16, e16, rfl⟩ := own_shape hO
                have HE := Lib.hid (EAt.of_own hO)
                clear hO
                have hB6 := Below.step hB5 hb
                have bR6 := bR5.below hb
                have I14_6 := Lib.hid (I14_5.out.below hb)
                have I15_6 := Lib.hid (I15_5.out.below hb)
                have I16_6 := Lib.hid (I16_5.out.below hb)
                have I17_6 := Lib.hid (I17_5.out.below hb)
                have IL_6 := Lib.hid (IL_5.out.below hb)
                have IW_6 := Lib.hid (IW_5.out.below hb)
                clear hb hB5 bR5 I14_5 I15_5 I16_5 I17_5 IL_5 IW_5
                go_wp2_with fail
                refine (HSM.out X16 E16 e16 A16 c16 _ HE.out I16_6.out (by first | exact HB14.out | exact HB15.out | exact HB16.out | exact HB17.out)).mono ?_
                rintro e ws ⟨rfl, hb⟩
                clear HE
                have hB7 := Below.step hB6 hb
                have bR7 := bR6.below hb
                have I14_7 := Lib.hid (I14_6.out.below hb)
                have I15_7 := Lib.hid (I15_6.out.below hb)
                have I16_7 := Lib.hid (I16_6.out.below hb)
                have I17_7 := Lib.hid (I17_6.out.below hb)
                have IL_7 := Lib.hid (IL_6.out.below hb)
                have IW_7 := Lib.hid (IW_6.out.below hb)
                clear hb hB6 bR6 I14_6 I15_6 I16_6 I17_6 IL_6 IW_6
                go_wp2_with fail
                refine (HWE.out _ IW_7.out).mono ?_
                rintro e ws ⟨v, rfl, hO, hb⟩
                obtain ⟨E17, e17, rfl⟩ := own_shape hO
                have HE := Lib.hid (EAt.of_own hO)
                clear hO
                have hB8 := Below.step hB7 hb
                have bR8 := bR7.below hb
                have I14_8 := Lib.hid (I14_7.out.below hb)
                have I15_8 := Lib.hid (I15_7.out.below hb)
                have I16_8 := Lib.hid (I16_7.out.below hb)
                have I17_8 := Lib.hid (I17_7.out.below hb)
                have IL_8 := Lib.hid (IL_7.out.below hb)
                have IW_8 := Lib.hid (IW_7.out.below hb)
                clear hb hB7 bR7 I14_7 I15_7 I16_7 I17_7 IL_7 IW_7
                go_wp2_with fail
                refine (HSM.out X17 E17 e17 A17 c17 _ HE.out I17_8.out (by first | exact HB14.out | exact HB15.out | exact HB16.out | exact HB17.out)).mono ?_
                rintro e ws ⟨rfl, hb⟩
                clear HE
                have hB9 := Below.step hB8 hb
                have bR9 := bR8.below hb
                have I14_9 := Lib.hid (I14_8.out.below hb)
                have I15_9 := Lib.hid (I15_8.out.below hb)
                have I16_9 := Lib.hid (I16_8.out.below hb)
                have I17_9 := Lib.hid (I17_8.out.below hb)
                have IL_9 := Lib.hid (IL_8.out.below hb)
                have IW_9 := Lib.hid (IW_8.out.below hb)
                clear hb hB8 bR8 I14_8 I15_8 I16_8 I17_8 IL_8 IW_8
                go_wp2_with fail
                go_ret
                exact ⟨rfl, hB9⟩
set_option maxRecDepth 100000 in
set_option maxHeartbeats 16000000 in
theorem main_c (p c nn b r f g ag n : Int) (m NB K : Nat) (A3 : Option Addr) (cap3 : Nat) (numbers : List Int) (A4 : Option Addr) (cap4 : Nat) (W : List Int) (w : World) (hp : 1 ≤ p ∧ p ≤ 6) (hc : 1 ≤ c ∧ c ≤ 4) (hn : 1 ≤ nn ∧ nn ≤ 3) (hb : 1 ≤ b ∧ b ≤ 4) (hr : 0 ≤ r ∧ r ≤ 4) (hf : 1 ≤ f ∧ f ≤ 4) (hg : 1 ≤ g ∧ g ≤ 15)
    (hm : (m : Int) = p + 2 * (nn * b)) (hI3 : IAt w A3 numbers) (hl3 : numbers.length ≤ 200) (hI4 : IAt w A4 W) (hl4 : W.length ≤ 20) (hNB : (NB : Int) = max 0 (min n 65536)) (hK : (K : Int) = max 0 (min n 64)) (hyp : 64 < n ∧ n ≤ 65536) :
    Calls Try.prog 4 #[.agg #[.int .i64 p, .int .i64 c, .int .i64 nn, .int .i64 b, .int .i64 r, .int .i64 f, .int .i64 g], .int .i64 ag, .int .i64 n, .slice A3 numbers.length cap3, .slice A4 W.length cap4] w fun e w' => e = .returned (.bool true) ∧ Below w.heap.size w w' := by
  have hnb := mul12 hn hb
  obtain ⟨j0, hj, hj0, hj1, hj2⟩ := info_parts infoI
  have HJ := Lib.hid hj
  have HJ0 := Lib.hid hj0
  have HJ1 := Lib.hid hj1
  have HJ2 := Lib.hid hj2
  have HN := Lib.hid (fun W => rnew_ok p c nn b r f g W hp hc hn hb hr hf hg)
  have HCK := Lib.hid (fun W => check_ok p c nn b r f g W hp hc hn hb hr hf hg)
  have H3 := Lib.hid hI3
  have H4 := Lib.hid hI4
  have hK64 : K ≤ 64 := by omega
  have HBU := Lib.hid (fun Wd => show Calls Try.prog 19 #[.int .i64 ag, .int .i64 n] Wd (ERow Wd.heap.size ((List.replicate NB ag).map ev3) Wd) from by rw [List.map_replicate]; exact burst_is ag n NB Wd hNB)
  have HRD := Lib.hid (fun Wd => show Calls Try.prog 22 #[.agg #[.int .i64 p, .int .i64 c, .int .i64 nn, .int .i64 b, .int .i64 r, .int .i64 f, .int .i64 g], .int .i64 (64)] Wd (ERow (Wd.heap.size + 1) ((rI m (K * m)).map ev3) Wd) from by rw [← rI_rnd, show (64 : Int) = (K : Int) from by omega]; exact round_is p c nn b r f g m K Wd hm hnb hp hK64)
  have HDR := Lib.hid (fun Wd (h : IAt Wd A3 numbers) => drawn_is p c nn b r f g m A3 cap3 numbers Wd h hl3 hm hnb hp)
  have HWE := Lib.hid (fun Wd (h : IAt Wd A4 W) => show Calls Try.prog 23 #[.slice A4 W.length cap4, .int .i64 (64)] Wd (ERow Wd.heap.size ((wk W K).map ev3) Wd) from by rw [show (64 : Int) = (K : Int) from by omega]; exact weighted_is A4 cap4 W K Wd h hl4 hK64)
  have HSM := Lib.hid (fun (X : List Int) (A : Option Addr) (c : Nat) (B : Option Addr) (cb : Nat) (Wd : World) (h : EAt Wd A (X.map ev3)) (hI : IAt Wd B X) (hl : X.length ≤ 200000) => show Calls Try.prog 20 #[.slice A X.length c, .slice B X.length cb] Wd fun e w' => e = .returned (.bool true) ∧ Below Wd.heap.size Wd w' from by have h2 := same_is A c (X.map ev3) B cb X Wd h hI (sm_ev3 X) hl; rw [List.length_map] at h2; exact h2)
  have HRP := Lib.hid (fun (x : Int) Wd => refpick_is x (m : Int) Wd (by omega) (by omega))
  have HB14 := Lib.hid (show (List.replicate NB ag).length ≤ 200000 from by rw [List.length_replicate]; omega)
  have HB15 := Lib.hid (show (rI m (K * m)).length ≤ 200000 from by rw [rI_len]; have : K * m ≤ 64 * 30 := Nat.mul_le_mul hK64 (by omega); omega)
  have HB16 := Lib.hid (show (numbers.map (fun x => pkS x (m : Int))).length ≤ 200000 from by rw [List.length_map]; omega)
  have HB17 := Lib.hid (show (wk W K).length ≤ 200000 from Nat.le_trans (wk_len W K) (Nat.le_trans (Nat.mul_le_mul hK64 (Nat.mul_le_mul (Nat.le_refl 64) hl4)) (by omega)))
  have hnb2 : 2 * nn * b = (m : Int) - p := by rw [hm, Int.mul_assoc]; omega
  have hpm : p + ((m : Int) - p) = (m : Int) := by omega
  have m2 : m ≤ 30 := by omega
  have m0 : (0 : Int) ≤ (m : Int) := by omega
  have m1 : (m : Int) ≤ 30 := by omega
  have HNB := Lib.hid hNB
  have HK := Lib.hid hK
  obtain ⟨p0, p1⟩ := hp
  obtain ⟨n0, n1⟩ := hn
  have mp : p ≤ (m : Int) := by omega
  have l3 : (numbers.length : Int) ≤ 200 := by omega
  have l4 : (W.length : Int) ≤ 20 := by omega
  have l3d : decide ((200 : Int) < (numbers.length : Int)) = false := decide_eq_false (by omega)
  have l4d : decide ((20 : Int) < (W.length : Int)) = false := decide_eq_false (by omega)
  have bx0 := Blk7.new w p c nn b r f g 23
  clear hI3 hI4 hm hnb hc hb hr hf hg hj hj0 hj1 hj2 hNB hK
  go_enter Try.func4, Try.ntmps4
  go_wp2_with fail
  refine (HN.out _).mono ?_
  rintro e w1 ⟨rfl, hb1⟩
  have bx1 := bx0.below hb1
  have hB1 : Below w.heap.size w w1 := Below.step (by go_grown) hb1
  clear hb1 bx0
  have hB1a := hB1.alloc hB1.size (.cells #[.int .i64 p, .int .i64 c, .int .i64 nn, .int .i64 b, .int .i64 r, .int .i64 f, .int .i64 g] 25)
  have bC1 := bx1.below (show Below w1.heap.size w1 (w1.alloc (.cells #[.int .i64 p, .int .i64 c, .int .i64 nn, .int .i64 b, .int .i64 r, .int .i64 f, .int .i64 g] 25)) from by go_grown)
  have bR1 := Blk7.new w1 p c nn b r f g 25
  obtain ⟨⟨c0, c1, c2, c3, c4, c5, c6⟩, hlx⟩ := id bx1
  go_wp2_with fail
  refine (HCK.out _).mono ?_
  rintro e w2 ⟨rfl, hb2⟩
  have hB2 : Below w.heap.size w w2 := Below.step hB1a hb2
  have bC2 := bC1.below hb2
  have bR2 := bR1.below hb2
  clear hb2 bC1 bR1 bx1 c0 c1 c2 c3 c4 c5 c6 hlx hB1 hB1a
  obtain ⟨⟨c0, c1, c2, c3, c4, c5, c6⟩, hlx⟩ := id bC2
  go_wp2_with fail
  clear c0 c1 c2 c3 c4 c5 c6 hlx hpm hnb2 bC2
  go_loopw [14, 63] (fun v i wr => ∃ k : Nat, k ≤ NB ∧ i = .int .i64 (k : Int) ∧ Hid (One w2.heap.size wr v (List.replicate k ag)) ∧ Below w2.heap.size w2 wr) (fun _ i _ => NB + 1 - (intOf i).toNat)
  case atStart => exact ⟨0, Nat.zero_le _, rfl, One.nil _ _, Below.refl _ _⟩
  case round =>
    obtain ⟨k, hk, rfl, HO, hB⟩ := hrel
    have k0 : (0 : Int) ≤ (k : Int) := by omega
    by_cases hkl : k < NB
    · have k1 : (k : Int) < n := by have := HNB.out; omega
      have k9 : (k : Int) ≤ 65536 := by have := HNB.out; omega
      have HSN := Lib.hid (show List.replicate (k + 1) ag = List.replicate k ag ++ [ag] from List.replicate_succ')
      have N1 := Lib.hid (show (List.replicate k ag).length + 1 ≤ maxLen from by rw [List.length_replicate]; unfold maxLen; omega)
      have N2 := Lib.hid (show ((List.replicate k ag).length + 1) * 8 ≤ 140737488355328 from by rw [List.length_replicate]; omega)
      have HR := Lib.hid (reads_newN wr 1 1 [.int .i64 ag] 3 rfl)
      have HO1 := Lib.hid (World.ownsRow.alloc HO.out (Obj.cells #[.int .i64 ag] 3))
      have N3 := Lib.hid (show w2.heap.size ≤ (wr.alloc (Obj.cells #[.int .i64 ag] 3)).heap.size from by have h := hB.size; simp; omega)
      have NV := Lib.hid (ints_oneCell .i64 [ag])
      have hBA := hB.alloc hB.size (Obj.cells #[.int .i64 ag] 3)
      go_wp2_with (at_builtin; refine wpList_append_any _ rfl (.tmp 65) (.tmp 67) 35 rfl w2.heap.size 3 j0 (.int .i64 0) 1 8 Try.underlying35 HJ.out HJ0.out HJ1.out HJ2.out rfl (by decide) _ (List.replicate k ag).length ((List.replicate k ag).map (Value.int .i64)) rfl HO1.out _ (some ⟨wr.heap.size, 0, none⟩) 1 1 _ rfl HR.out NV.out N1.out N2.out N3.out ?_; intro v3 w3 hown3 hgrow3 hblk3; have HP := Lib.hid (And.intro hown3 (And.intro hgrow3 hblk3)); clear hown3 hgrow3 hblk3)
      go_roundw
      case rel => exact ⟨k + 1, by omega, by go_num, by refine Lib.hid ?_; rw [HSN.out]; exact One.app HP.out.1, Below.grown hBA HP.out.2.1 hBA.size (fun g e => (HO1.out.lt g e).1)⟩
      case measure => simp [intOf]; omega
    · obtain rfl : NB = k := by omega
      have hd : decide ((NB : Int) < n) = false := decide_eq_false (by have := HNB.out; omega)
      have bR3 := bR2.below hB
      have hB3 := Below.step hB2 hB
      have hO14 := HO.out
      generalize List.replicate NB ag = X14 at *
      clear hB HO hB2 bR2
      obtain ⟨WB, rfl⟩ : ∃ WB, WB = wr := ⟨wr, rfl⟩
      obtain ⟨A14, c14, rfl⟩ := own_shape hO14
      have I14 := Lib.hid (IAt.of_own hO14)
      clear hO14
      go_wp2_with fail
      go_loopw [15, 17, 74] (fun v u i wr => ∃ q : Nat, q ≤ K ∧ i = .int .i64 (q : Int) ∧ Hid (Two WB.heap.size wr v (rI m (q * m)) u (wk W q)) ∧ Below WB.heap.size WB wr) (fun _ _ i _ => K + 1 - (intOf i).toNat)
      case atStart => exact ⟨0, Nat.zero_le _, rfl, by rw [Nat.zero_mul]; exact ⟨One.nil _ _, One.nil _ _, fun g h => by cases h⟩, Below.refl _ _⟩
      case round =>
        obtain ⟨q, hq, rfl, HT, hB⟩ := hrel
        have q0 : (0 : Int) ≤ (q : Int) := by omega
        by_cases hql : q < K
        · have q1 : (q : Int) < 64 := by have := HK.out; omega
          have q9 : (q : Int) ≤ 64 := by have := HK.out; omega
          have HQL := Lib.hid (show (wk W q).length ≤ 64 * (64 * 20) from Nat.le_trans (wk_len W q) (Nat.mul_le_mul (by omega) (by omega)))
          have HQM := Lib.hid (show q * m ≤ 64 * 30 from Nat.mul_le_mul (by omega) (by omega))
          go_wp2_with fail
          go_loopw [15, 77] (fun v i wr => ∃ j : Nat, j ≤ m ∧ i = .int .i64 (j : Int) ∧ Hid (Two WB.heap.size wr v (rI m (q * m + j)) u17 (wk W q)) ∧ Below WB.heap.size WB wr) (fun _ i _ => m + 1 - (intOf i).toNat)
          case atStart => exact ⟨0, Nat.zero_le _, rfl, HT, hB⟩
          case round =>
           clear HT hB
           obtain ⟨j, hj, rfl, HT, hB⟩ := hrel
           have j0' : (0 : Int) ≤ (j : Int) := by omega
           by_cases hjm : j < m
           · have j1 : (j : Int) < (m : Int) := by omega
             have HSN := Lib.hid (rI_next m q j hjm)
             have N1 := Lib.hid (show (rI m (q * m + j)).length + 1 ≤ maxLen from by rw [rI_len]; have := HQM.out; unfold maxLen; omega)
             have N2 := Lib.hid (show ((rI m (q * m + j)).length + 1) * 8 ≤ 140737488355328 from by rw [rI_len]; have := HQM.out; omega)
             have HR := Lib.hid (reads_newN wr 1 1 [.int .i64 (j : Int)] 3 rfl)
             have HO1 := Lib.hid (World.ownsRow.alloc HT.out.1 (Obj.cells #[.int .i64 (j : Int)] 3))
             have N3 := Lib.hid (show WB.heap.size ≤ (wr.alloc (Obj.cells #[.int .i64 (j : Int)] 3)).heap.size from by have h := hB.size; simp; omega)
             have NV := Lib.hid (ints_oneCell .i64 [(j : Int)])
             have hBA := hB.alloc hB.size (Obj.cells #[.int .i64 (j : Int)] 3)
             go_wp2_with (at_builtin; refine wpList_append_any _ rfl (.tmp 80) (.tmp 82) 35 rfl WB.heap.size 3 j0 (.int .i64 0) 1 8 Try.underlying35 HJ.out HJ0.out HJ1.out HJ2.out rfl (by decide) _ (rI m (q * m + j)).length ((rI m (q * m + j)).map (Value.int .i64)) rfl HO1.out _ (some ⟨wr.heap.size, 0, none⟩) 1 1 _ rfl HR.out NV.out N1.out N2.out N3.out ?_; intro v3 w3 hown3 hgrow3 hblk3; have HP := Lib.hid (And.intro hown3 (And.intro hgrow3 hblk3)); clear hown3 hgrow3 hblk3)
             go_roundw
             case rel => exact ⟨j + 1, by omega, by go_num, by refine Lib.hid ?_; rw [HSN.out]; exact Two.app HT.out HP.out.1 HP.out.2.1 HP.out.2.2, Below.grown hBA HP.out.2.1 hBA.size (fun g e => (HO1.out.lt g e).1)⟩
             case measure => simp [intOf]; omega
           · obtain rfl : m = j := by omega
             have hd2 : decide ((m : Int) < (m : Int)) = false := decide_eq_false (by omega)
             go_wp2_with fail
             go_loopw [17, 87] (fun u i wr => ∃ t : Nat, t ≤ W.length ∧ i = .int .i64 (t : Int) ∧ Hid (Two WB.heap.size wr u15 (rI m (q * m + m)) u (wk W q ++ wl W t)) ∧ Below WB.heap.size WB wr) (fun _ i _ => W.length + 1 - (intOf i).toNat)
             case atStart => exact ⟨0, Nat.zero_le _, rfl, by show Hid (Two _ _ _ _ _ (wk W q ++ [])); rw [List.append_nil]; exact HT, hB⟩
             case round =>
              clear HT hB
              obtain ⟨t, ht, rfl, HT, hB⟩ := hrel
              have t0 : (0 : Int) ≤ (t : Int) := by omega
              by_cases htl : t < W.length
              · have t1 : (t : Int) < (W.length : Int) := by omega
                obtain ⟨x, hx⟩ : ∃ e, W[t]? = some e := ⟨_, List.getElem?_eq_getElem htl⟩
                obtain ⟨ad, hA, hadl, hcx⟩ := (H4.out.below (Below.step hB3 hB)) t x hx
                subst hA
                have HXL := Lib.hid (show (wk W q ++ wl W t).length ≤ 99000 from by rw [List.length_append]; have := HQL.out; have := wl_len W t; omega)
                have HNX := Lib.hid (show wk W q ++ wl W (t + 1) = (wk W q ++ wl W t) ++ List.replicate (wnum x) (t : Int) from by rw [wl_next W t x hx, List.append_assoc])
                clear hx
                generalize wk W q ++ wl W t = Y at *
                by_cases hx0 : x ≤ 0
                · have HWN := Lib.hid (show (wnum x : Int) = 0 from by unfold wnum; omega)
                  go_wp2_with fail
                  go_loopw [17, 95] (fun u i wr => ∃ s : Nat, s ≤ wnum x ∧ i = .int .i64 (s : Int) ∧ Hid (Two WB.heap.size wr u15 (rI m (q * m + m)) u (Y ++ List.replicate s (t : Int))) ∧ Below WB.heap.size WB wr) (fun _ i _ => wnum x + 1 - (intOf i).toNat)
                  case atStart => exact ⟨0, Nat.zero_le _, rfl, by rw [List.replicate_zero, List.append_nil]; exact HT, hB⟩
                  case round =>
                    clear HT hB
                    obtain ⟨s, hs, rfl, HT, hB⟩ := hrel
                    have s0 : (0 : Int) ≤ (s : Int) := by omega
                    by_cases hsl : s < wnum x
                    · exfalso
                      have := HWN.out
                      omega
                    · obtain rfl : s = wnum x := by omega
                      have s1d : decide (((wnum x : Nat) : Int) < 0) = false := decide_eq_false (by have := HWN.out; omega)
                      go_wp2_with fail
                      go_roundw
                      case rel => exact ⟨t + 1, by omega, by go_num, by rw [HNX.out]; exact HT, hB⟩
                      case measure => simp [intOf]; omega
                · by_cases hx64 : x ≤ 64
                  · have hx1 : 0 < x := by omega
                    have HWN := Lib.hid (show (wnum x : Int) = x from by unfold wnum; omega)
                    go_wp2_with fail
                    go_loopw [17, 95] (fun u i wr => ∃ s : Nat, s ≤ wnum x ∧ i = .int .i64 (s : Int) ∧ Hid (Two WB.heap.size wr u15 (rI m (q * m + m)) u (Y ++ List.replicate s (t : Int))) ∧ Below WB.heap.size WB wr) (fun _ i _ => wnum x + 1 - (intOf i).toNat)
                    case atStart => exact ⟨0, Nat.zero_le _, rfl, by rw [List.replicate_zero, List.append_nil]; exact HT, hB⟩
                    case round =>
                      clear HT hB
                      obtain ⟨s, hs, rfl, HT, hB⟩ := hrel
                      have s0 : (0 : Int) ≤ (s : Int) := by omega
                      by_cases hsl : s < wnum x
                      · have s1 : (s : Int) < x := by have := HWN.out; omega
                        have HYL := Lib.hid (show (Y ++ List.replicate s (t : Int)).length ≤ 100000 from by rw [List.length_append, List.length_replicate]; have := HXL.out; have := wnum_le x; omega)
                        have HSN := Lib.hid (show Y ++ List.replicate (s + 1) (t : Int) = (Y ++ List.replicate s (t : Int)) ++ [(t : Int)] from by rw [List.replicate_succ', List.append_assoc])
                        have N1 := Lib.hid (show (Y ++ List.replicate s (t : Int)).length + 1 ≤ maxLen from by have := HYL.out; unfold maxLen; omega)
                        have N2 := Lib.hid (show ((Y ++ List.replicate s (t : Int)).length + 1) * 8 ≤ 140737488355328 from by have := HYL.out; omega)
                        have HR := Lib.hid (reads_newN wr 1 1 [.int .i64 (t : Int)] 3 rfl)
                        have HO1 := Lib.hid (World.ownsRow.alloc HT.out.2.1 (Obj.cells #[.int .i64 (t : Int)] 3))
                        have N3 := Lib.hid (show WB.heap.size ≤ (wr.alloc (Obj.cells #[.int .i64 (t : Int)] 3)).heap.size from by have h := hB.size; simp; omega)
                        have NV := Lib.hid (ints_oneCell .i64 [(t : Int)])
                        have hBA := hB.alloc hB.size (Obj.cells #[.int .i64 (t : Int)] 3)
                        go_wp2_with (at_builtin; refine wpList_append_any _ rfl (.tmp 97) (.tmp 99) 35 rfl WB.heap.size 3 j0 (.int .i64 0) 1 8 Try.underlying35 HJ.out HJ0.out HJ1.out HJ2.out rfl (by decide) _ (Y ++ List.replicate s (t : Int)).length ((Y ++ List.replicate s (t : Int)).map (Value.int .i64)) rfl HO1.out _ (some ⟨wr.heap.size, 0, none⟩) 1 1 _ rfl HR.out NV.out N1.out N2.out N3.out ?_; intro v3 w3 hown3 hgrow3 hblk3; have HP := Lib.hid (And.intro hown3 (And.intro hgrow3 hblk3)); clear hown3 hgrow3 hblk3)
                        go_roundw
                        case rel => exact ⟨s + 1, by omega, by go_num, by refine Lib.hid ?_; rw [HSN.out]; exact (Two.app HT.out.swap HP.out.1 HP.out.2.1 HP.out.2.2).swap, Below.grown hBA HP.out.2.1 hBA.size (fun g e => (HO1.out.lt g e).1)⟩
                        case measure => simp [intOf]; omega
                      · obtain rfl : s = wnum x := by omega
                        have s1d : decide (((wnum x : Nat) : Int) < x) = false := decide_eq_false (by have := HWN.out; omega)
                        go_wp2_with fail
                        go_roundw
                        case rel => exact ⟨t + 1, by omega, by go_num, by rw [HNX.out]; exact HT, hB⟩
                        case measure => simp [intOf]; omega
                  · have hx1 : 64 < x := by omega
                    have HWN := Lib.hid (show (wnum x : Int) = 64 from by unfold wnum; omega)
                    go_wp2_with fail
                    go_loopw [17, 95] (fun u i wr => ∃ s : Nat, s ≤ wnum x ∧ i = .int .i64 (s : Int) ∧ Hid (Two WB.heap.size wr u15 (rI m (q * m + m)) u (Y ++ List.replicate s (t : Int))) ∧ Below WB.heap.size WB wr) (fun _ i _ => wnum x + 1 - (intOf i).toNat)
                    case atStart => exact ⟨0, Nat.zero_le _, rfl, by rw [List.replicate_zero, List.append_nil]; exact HT, hB⟩
                    case round =>
                      clear HT hB
                      obtain ⟨s, hs, rfl, HT, hB⟩ := hrel
                      have s0 : (0 : Int) ≤ (s : Int) := by omega
                      by_cases hsl : s < wnum x
                      · have s1 : (s : Int) < 64 := by have := HWN.out; omega
                        have HYL := Lib.hid (show (Y ++ List.replicate s (t : Int)).length ≤ 100000 from by rw [List.length_append, List.length_replicate]; have := HXL.out; have := wnum_le x; omega)
                        have HSN := Lib.hid (show Y ++ List.replicate (s + 1) (t : Int) = (Y ++ List.replicate s (t : Int)) ++ [(t : Int)] from by rw [List.replicate_succ', List.append_assoc])
                        have N1 := Lib.hid (show (Y ++ List.replicate s (t : Int)).length + 1 ≤ maxLen from by have := HYL.out; unfold maxLen; omega)
                        have N2 := Lib.hid (show ((Y ++ List.replicate s (t : Int)).length + 1) * 8 ≤ 140737488355328 from by have := HYL.out; omega)
                        have HR := Lib.hid (reads_newN wr 1 1 [.int .i64 (t : Int)] 3 rfl)
                        have HO1 := Lib.hid (World.ownsRow.alloc HT.out.2.1 (Obj.cells #[.int .i64 (t : Int)] 3))
                        have N3 := Lib.hid (show WB.heap.size ≤ (wr.alloc (Obj.cells #[.int .i64 (t : Int)] 3)).heap.size from by have h := hB.size; simp; omega)
                        have NV := Lib.hid (ints_oneCell .i64 [(t : Int)])
                        have hBA := hB.alloc hB.size (Obj.cells #[.int .i64 (t : Int)] 3)
                        go_wp2_with (at_builtin; refine wpList_append_any _ rfl (.tmp 97) (.tmp 99) 35 rfl WB.heap.size 3 j0 (.int .i64 0) 1 8 Try.underlying35 HJ.out HJ0.out HJ1.out HJ2.out rfl (by decide) _ (Y ++ List.replicate s (t : Int)).length ((Y ++ List.replicate s (t : Int)).map (Value.int .i64)) rfl HO1.out _ (some ⟨wr.heap.size, 0, none⟩) 1 1 _ rfl HR.out NV.out N1.out N2.out N3.out ?_; intro v3 w3 hown3 hgrow3 hblk3; have HP := Lib.hid (And.intro hown3 (And.intro hgrow3 hblk3)); clear hown3 hgrow3 hblk3)
                        go_roundw
                        case rel => exact ⟨s + 1, by omega, by go_num, by refine Lib.hid ?_; rw [HSN.out]; exact (Two.app HT.out.swap HP.out.1 HP.out.2.1 HP.out.2.2).swap, Below.grown hBA HP.out.2.1 hBA.size (fun g e => (HO1.out.lt g e).1)⟩
                        case measure => simp [intOf]; omega
                      · obtain rfl : s = wnum x := by omega
                        have s1d : decide (((wnum x : Nat) : Int) < 64) = false := decide_eq_false (by have := HWN.out; omega)
                        go_wp2_with fail
                        go_roundw
                        case rel => exact ⟨t + 1, by omega, by go_num, by rw [HNX.out]; exact HT, hB⟩
                        case measure => simp [intOf]; omega
              · obtain rfl : t = W.length := by omega
                have hd4 : decide ((W.length : Int) < (W.length : Int)) = false := decide_eq_false (by omega)
                go_wp2_with fail
                go_roundw
                case rel => exact ⟨q + 1, by omega, by go_num, by rw [Nat.add_mul q 1, Nat.one_mul]; exact HT, hB⟩
                case measure => simp [intOf]; omega
        · obtain rfl : K = q := by omega
          have hdq : decide ((K : Int) < 64) = false := decide_eq_false (by have := HK.out; omega)
          have bR4 := bR3.below hB
          have hB4 := Below.step hB3 hB
          obtain ⟨hO15, hO17, _⟩ := HT.out
          generalize rI m (K * m) = X15 at *
          generalize wk W K = X17 at *
          have I14b := Lib.hid (I14.out.below hB)
          clear hB HT hB3 bR3 I14
          obtain ⟨WC, rfl⟩ : ∃ WC, WC = wr := ⟨wr, rfl⟩
          obtain ⟨A15, c15, rfl⟩ := own_shape hO15
          obtain ⟨A17, c17, rfl⟩ := own_shape hO17
          have I15 := Lib.hid (IAt.of_own hO15)
          have I17 := Lib.hid (IAt.of_own hO17)
          clear hO15 hO17
          go_wp2_with fail
          go_loopw [16, 106] (fun v i wr => ∃ k : Nat, k ≤ numbers.length ∧ i = .int .i64 (k : Int) ∧ Hid (One WC.heap.size wr v ((numbers.take k).map (fun x => pkS x (m : Int)))) ∧ Below WC.heap.size WC wr) (fun _ i _ => numbers.length + 1 - (intOf i).toNat)
          case atStart => exact ⟨0, Nat.zero_le _, rfl, One.nil _ _, Below.refl _ _⟩
          case round =>
            obtain ⟨k, hk, rfl, HO, hB⟩ := hrel
            have k0 : (0 : Int) ≤ (k : Int) := by omega
            by_cases hkl : k < numbers.length
            · have k1 : (k : Int) < (numbers.length : Int) := by omega
              obtain ⟨x, hx⟩ : ∃ e, numbers[k]? = some e := ⟨_, List.getElem?_eq_getElem hkl⟩
              obtain ⟨ad, hA, hadl, hcx⟩ := (H3.out.below (Below.step hB4 hB)) k x hx
              subst hA
              have HSN := Lib.hid (show (numbers.take (k + 1)).map (fun x => pkS x (m : Int)) = (numbers.take k).map (fun x => pkS x (m : Int)) ++ [pkS x (m : Int)] from by rw [List.take_add_one, hx, List.map_append]; rfl)
              clear hx
              generalize hy : pkS x (m : Int) = y at HSN
              go_wp2_with fail
              refine (HRP.out x _).mono ?_
              rw [hy]
              rintro e wq ⟨rfl, hbq⟩
              have HOq := Lib.hid (HO.out.below hbq)
              have hBq := Below.step hB hbq
              clear HO hB hbq
              have hB := hBq
              have N1 := Lib.hid (show ((numbers.take k).map (fun x => pkS x (m : Int))).length + 1 ≤ maxLen from by rw [List.length_map, List.length_take]; unfold maxLen; omega)
              have N2 := Lib.hid (show (((numbers.take k).map (fun x => pkS x (m : Int))).length + 1) * 8 ≤ 140737488355328 from by rw [List.length_map, List.length_take]; omega)
              have HR := Lib.hid (reads_newN wq 1 1 [.int .i64 y] 3 rfl)
              have HO1 := Lib.hid (World.ownsRow.alloc HOq.out (Obj.cells #[.int .i64 y] 3))
              have N3 := Lib.hid (show WC.heap.size ≤ (wq.alloc (Obj.cells #[.int .i64 y] 3)).heap.size from by have h := hB.size; simp; omega)
              have NV := Lib.hid (ints_oneCell .i64 [y])
              have hBA := hB.alloc hB.size (Obj.cells #[.int .i64 y] 3)
              go_wp2_with (at_builtin; refine wpList_append_any _ rfl (.tmp 110) (.tmp 114) 35 rfl WC.heap.size 3 j0 (.int .i64 0) 1 8 Try.underlying35 HJ.out HJ0.out HJ1.out HJ2.out rfl (by decide) _ ((numbers.take k).map (fun x => pkS x (m : Int))).length (((numbers.take k).map (fun x => pkS x (m : Int))).map (Value.int .i64)) rfl HO1.out _ (some ⟨wq.heap.size, 0, none⟩) 1 1 _ rfl HR.out NV.out N1.out N2.out N3.out ?_; intro v3 w3 hown3 hgrow3 hblk3; have HP := Lib.hid (And.intro hown3 (And.intro hgrow3 hblk3)); clear hown3 hgrow3 hblk3)
              go_roundw
              case rel => exact ⟨k + 1, by omega, by go_num, by refine Lib.hid ?_; rw [HSN.out]; exact One.app HP.out.1, Below.grown hBA HP.out.2.1 hBA.size (fun g e => (HO1.out.lt g e).1)⟩
              case measure => simp [intOf]; omega
            · obtain rfl : k = numbers.length := by omega
              have hdk : decide ((numbers.length : Int) < (numbers.length : Int)) = false := decide_eq_false (by omega)
              have bR0 := bR4.below hB
              have hB0 := Below.step hB4 hB
              have hO16 := HO.out
              rw [List.take_length] at hO16
              generalize numbers.map (fun x => pkS x (m : Int)) = X16 at *
              have I14_0 := Lib.hid (I14b.out.below hB)
              have I15_0 := Lib.hid (I15.out.below hB)
              have I17_0 := Lib.hid (I17.out.below hB)
              obtain ⟨A16, c16, rfl⟩ := own_shape hO16
              have I16_0 := Lib.hid (IAt.of_own hO16)
              have IL_0 := Lib.hid (H3.out.below hB0)
              have IW_0 := Lib.hid (H4.out.below hB0)
              clear hB HO hB4 bR4 hO16 I14b I15 I17
              by_cases hag : ag < 0
              · go_wp2_with fail
                refine (awake21 _).mono ?_
                rintro e ws ⟨rfl, hb⟩
                have hB1 := Below.step hB0 hb
                have bR1 := bR0.below hb
                have I14_1 := Lib.hid (I14_0.out.below hb)
                have I15_1 := Lib.hid (I15_0.out.below hb)
                have I16_1 := Lib.hid (I16_0.out.below hb)
                have I17_1 := Lib.hid (I17_0.out.below hb)
                have IL_1 := Lib.hid (IL_0.out.below hb)
                have IW_1 := Lib.hid (IW_0.out.below hb)
                clear hb hB0 bR0 I14_0 I15_0 I16_0 I17_0 IL_0 IW_0
                go_wp2_with fail
                refine (HBU.out _).mono ?_
                rintro e ws ⟨v, rfl, hO, hb⟩
                obtain ⟨E14, e14, rfl⟩ := own_shape hO
                clear hO
                have hB2 := Below.step hB1 hb
                have bR2 := bR1.below hb
                have I14_2 := Lib.hid (I14_1.out.below hb)
                have I15_2 := Lib.hid (I15_1.out.below hb)
                have I16_2 := Lib.hid (I16_1.out.below hb)
                have I17_2 := Lib.hid (I17_1.out.below hb)
                have IL_2 := Lib.hid (IL_1.out.below hb)
                have IW_2 := Lib.hid (IW_1.out.below hb)
                clear hb hB1 bR1 I14_1 I15_1 I16_1 I17_1 IL_1 IW_1
                obtain ⟨⟨c0, c1, c2, c3, c4, c5, c6⟩, hlR⟩ := id bR2
                have hNN : ((X14.length : Int) == (X14.length : Int)) = true := by simp
                go_wp2_with fail
                refine (HDR.out _ IL_2.out).mono ?_
                clear c0 c1 c2 c3 c4 c5 c6 hlR
                rintro e ws ⟨v, rfl, hO, hb⟩
                obtain ⟨E16, e16, rfl⟩ := own_shape hO
                have HE := Lib.hid (EAt.of_own hO)
                clear hO
                have hB3 := Below.step hB2 hb
                have bR3 := bR2.below hb
                have I14_3 := Lib.hid (I14_2.out.below hb)
                have I15_3 := Lib.hid (I15_2.out.below hb)
                have I16_3 := Lib.hid (I16_2.out.below hb)
                have I17_3 := Lib.hid (I17_2.out.below hb)
                have IL_3 := Lib.hid (IL_2.out.below hb)
                have IW_3 := Lib.hid (IW_2.out.below hb)
                clear hb hB2 bR2 I14_2 I15_2 I16_2 I17_2 IL_2 IW_2
                go_wp2_with fail
                refine (HSM.out X16 E16 e16 A16 c16 _ HE.out I16_3.out (by first | exact HB14.out | exact HB15.out | exact HB16.out | exact HB17.out)).mono ?_
                rintro e ws ⟨rfl, hb⟩
                clear HE
                have hB4 := Below.step hB3 hb
                have bR4 := bR3.below hb
                have I14_4 := Lib.hid (I14_3.out.below hb)
                have I15_4 := Lib.hid (I15_3.out.below hb)
                have I16_4 := Lib.hid (I16_3.out.below hb)
                have I17_4 := Lib.hid (I17_3.out.below hb)
                have IL_4 := Lib.hid (IL_3.out.below hb)
                have IW_4 := Lib.hid (IW_3.out.below hb)
                clear hb hB3 bR3 I14_3 I15_3 I16_3 I17_3 IL_3 IW_3
                go_wp2_with fail
                go_ret
                exact ⟨rfl, hB4⟩
              · have hagd : decide (ag < 0) = false := decide_eq_false hag
                go_wp2_with fail
                refine (awake21 _).mono ?_
                rintro e ws ⟨rfl, hb⟩
                have hB1 := Below.step hB0 hb
                have bR1 := bR0.below hb
                have I14_1 := Lib.hid (I14_0.out.below hb)
                have I15_1 := Lib.hid (I15_0.out.below hb)
                have I16_1 := Lib.hid (I16_0.out.below hb)
                have I17_1 := Lib.hid (I17_0.out.below hb)
                have IL_1 := Lib.hid (IL_0.out.below hb)
                have IW_1 := Lib.hid (IW_0.out.below hb)
                clear hb hB0 bR0 I14_0 I15_0 I16_0 I17_0 IL_0 IW_0
                go_wp2_with fail
                refine (HBU.out _).mono ?_
                rintro e ws ⟨v, rfl, hO, hb⟩
                obtain ⟨E14, e14, rfl⟩ := own_shape hO
                have HE := Lib.hid (EAt.of_own hO)
                clear hO
                have hB2 := Below.step hB1 hb
                have bR2 := bR1.below hb
                have I14_2 := Lib.hid (I14_1.out.below hb)
                have I15_2 := Lib.hid (I15_1.out.below hb)
                have I16_2 := Lib.hid (I16_1.out.below hb)
                have I17_2 := Lib.hid (I17_1.out.below hb)
                have IL_2 := Lib.hid (IL_1.out.below hb)
                have IW_2 := Lib.hid (IW_1.out.below hb)
                clear hb hB1 bR1 I14_1 I15_1 I16_1 I17_1 IL_1 IW_1
                go_wp2_with fail
                refine (HSM.out X14 E14 e14 A14 c14 _ HE.out I14_2.out (by first | exact HB14.out | exact HB15.out | exact HB16.out | exact HB17.out)).mono ?_
                rintro e ws ⟨rfl, hb⟩
                clear HE
                have hB3 := Below.step hB2 hb
                have bR3 := bR2.below hb
                have I14_3 := Lib.hid (I14_2.out.below hb)
                have I15_3 := Lib.hid (I15_2.out.below hb)
                have I16_3 := Lib.hid (I16_2.out.below hb)
                have I17_3 := Lib.hid (I17_2.out.below hb)
                have IL_3 := Lib.hid (IL_2.out.below hb)
                have IW_3 := Lib.hid (IW_2.out.below hb)
                clear hb hB2 bR2 I14_2 I15_2 I16_2 I17_2 IL_2 IW_2
                obtain ⟨⟨c0, c1, c2, c3, c4, c5, c6⟩, hlR⟩ := id bR3
                go_wp2_with fail
                refine (HRD.out _).mono ?_
                clear c0 c1 c2 c3 c4 c5 c6 hlR
                rintro e ws ⟨v, rfl, hO, hb⟩
                obtain ⟨E15, e15, rfl⟩ := own_shape hO
                have HE := Lib.hid (EAt.of_own hO)
                clear hO
                have hB4 := Below.step hB3 hb
                have bR4 := bR3.below hb
                have I14_4 := Lib.hid (I14_3.out.below hb)
                have I15_4 := Lib.hid (I15_3.out.below hb)
                have I16_4 := Lib.hid (I16_3.out.below hb)
                have I17_4 := Lib.hid (I17_3.out.below hb)
                have IL_4 := Lib.hid (IL_3.out.below hb)
                have IW_4 := Lib.hid (IW_3.out.below hb)
                clear hb hB3 bR3 I14_3 I15_3 I16_3 I17_3 IL_3 IW_3
                go_wp2_with fail
                refine (HSM.out X15 E15 e15 A15 c15 _ HE.out I15_4.out (by first | exact HB14.out | exact HB15.out | exact HB16.out | exact HB17.out)).mono ?_
                rintro e ws ⟨rfl, hb⟩
                clear HE
                have hB5 := Below.step hB4 hb
                have bR5 := bR4.below hb
                have I14_5 := Lib.hid (I14_4.out.below hb)
                have I15_5 := Lib.hid (I15_4.out.below hb)
                have I16_5 := Lib.hid (I16_4.out.below hb)
                have I17_5 := Lib.hid (I17_4.out.below hb)
                have IL_5 := Lib.hid (IL_4.out.below hb)
                have IW_5 := Lib.hid (IW_4.out.below hb)
                clear hb hB4 bR4 I14_4 I15_4 I16_4 I17_4 IL_4 IW_4
                obtain ⟨⟨c0, c1, c2, c3, c4, c5, c6⟩, hlR⟩ := id bR5
                go_wp2_with fail
                refine (HDR.out _ IL_5.out).mono ?_
                clear c0 c1 c2 c3 c4 c5 c6 hlR
                rintro e ws ⟨v, rfl, hO, hb⟩
                obtain ⟨E16, e16, rfl⟩ := own_shape hO
                have HE := Lib.hid (EAt.of_own hO)
                clear hO
                have hB6 := Below.step hB5 hb
                have bR6 := bR5.below hb
                have I14_6 := Lib.hid (I14_5.out.below hb)
                have I15_6 := Lib.hid (I15_5.out.below hb)
                have I16_6 := Lib.hid (I16_5.out.below hb)
                have I17_6 := Lib.hid (I17_5.out.below hb)
                have IL_6 := Lib.hid (IL_5.out.below hb)
                have IW_6 := Lib.hid (IW_5.out.below hb)
                clear hb hB5 bR5 I14_5 I15_5 I16_5 I17_5 IL_5 IW_5
                go_wp2_with fail
                refine (HSM.out X16 E16 e16 A16 c16 _ HE.out I16_6.out (by first | exact HB14.out | exact HB15.out | exact HB16.out | exact HB17.out)).mono ?_
                rintro e ws ⟨rfl, hb⟩
                clear HE
                have hB7 := Below.step hB6 hb
                have bR7 := bR6.below hb
                have I14_7 := Lib.hid (I14_6.out.below hb)
                have I15_7 := Lib.hid (I15_6.out.below hb)
                have I16_7 := Lib.hid (I16_6.out.below hb)
                have I17_7 := Lib.hid (I17_6.out.below hb)
                have IL_7 := Lib.hid (IL_6.out.below hb)
                have IW_7 := Lib.hid (IW_6.out.below hb)
                clear hb hB6 bR6 I14_6 I15_6 I16_6 I17_6 IL_6 IW_6
                go_wp2_with fail
                refine (HWE.out _ IW_7.out).mono ?_
                rintro e ws ⟨v, rfl, hO, hb⟩
                obtain ⟨E17, e17, rfl⟩ := own_shape hO
                have HE := Lib.hid (EAt.of_own hO)
                clear hO
                have hB8 := Below.step hB7 hb
                have bR8 := bR7.below hb
                have I14_8 := Lib.hid (I14_7.out.below hb)
                have I15_8 := Lib.hid (I15_7.out.below hb)
                have I16_8 := Lib.hid (I16_7.out.below hb)
                have I17_8 := Lib.hid (I17_7.out.below hb)
                have IL_8 := Lib.hid (IL_7.out.below hb)
                have IW_8 := Lib.hid (IW_7.out.below hb)
                clear hb hB7 bR7 I14_7 I15_7 I16_7 I17_7 IL_7 IW_7
                go_wp2_with fail
                refine (HSM.out X17 E17 e17 A17 c17 _ HE.out I17_8.out (by first | exact HB14.out | exact HB15.out | exact HB16.out | exact HB17.out)).mono ?_
                rintro e ws ⟨rfl, hb⟩
                clear HE
                have hB9 := Below.step hB8 hb
                have bR9 := bR8.below hb
                have I14_9 := Lib.hid (I14_8.out.below hb)
                have I15_9 := Lib.hid (I15_8.out.below hb)
                have I16_9 := Lib.hid (I16_8.out.below hb)
                have I17_9 := Lib.hid (I17_8.out.below hb)
                have IL_9 := Lib.hid (IL_8.out.below hb)
                have IW_9 := Lib.hid (IW_8.out.below hb)
                clear hb hB8 bR8 I14_8 I15_8 I16_8 I17_8 IL_8 IW_8
                go_wp2_with fail
                go_ret
                exact ⟨rfl, hB9⟩
set_option maxRecDepth 100000 in
set_option maxHeartbeats 16000000 in
theorem main_d (p c nn b r f g ag n : Int) (m NB K : Nat) (A3 : Option Addr) (cap3 : Nat) (numbers : List Int) (A4 : Option Addr) (cap4 : Nat) (W : List Int) (w : World) (hp : 1 ≤ p ∧ p ≤ 6) (hc : 1 ≤ c ∧ c ≤ 4) (hn : 1 ≤ nn ∧ nn ≤ 3) (hb : 1 ≤ b ∧ b ≤ 4) (hr : 0 ≤ r ∧ r ≤ 4) (hf : 1 ≤ f ∧ f ≤ 4) (hg : 1 ≤ g ∧ g ≤ 15)
    (hm : (m : Int) = p + 2 * (nn * b)) (hI3 : IAt w A3 numbers) (hl3 : numbers.length ≤ 200) (hI4 : IAt w A4 W) (hl4 : W.length ≤ 20) (hNB : (NB : Int) = max 0 (min n 65536)) (hK : (K : Int) = max 0 (min n 64)) (hyp : 65536 < n) :
    Calls Try.prog 4 #[.agg #[.int .i64 p, .int .i64 c, .int .i64 nn, .int .i64 b, .int .i64 r, .int .i64 f, .int .i64 g], .int .i64 ag, .int .i64 n, .slice A3 numbers.length cap3, .slice A4 W.length cap4] w fun e w' => e = .returned (.bool true) ∧ Below w.heap.size w w' := by
  have hnb := mul12 hn hb
  obtain ⟨j0, hj, hj0, hj1, hj2⟩ := info_parts infoI
  have HJ := Lib.hid hj
  have HJ0 := Lib.hid hj0
  have HJ1 := Lib.hid hj1
  have HJ2 := Lib.hid hj2
  have HN := Lib.hid (fun W => rnew_ok p c nn b r f g W hp hc hn hb hr hf hg)
  have HCK := Lib.hid (fun W => check_ok p c nn b r f g W hp hc hn hb hr hf hg)
  have H3 := Lib.hid hI3
  have H4 := Lib.hid hI4
  have hK64 : K ≤ 64 := by omega
  have HBU := Lib.hid (fun Wd => show Calls Try.prog 19 #[.int .i64 ag, .int .i64 n] Wd (ERow Wd.heap.size ((List.replicate NB ag).map ev3) Wd) from by rw [List.map_replicate]; exact burst_is ag n NB Wd hNB)
  have HRD := Lib.hid (fun Wd => show Calls Try.prog 22 #[.agg #[.int .i64 p, .int .i64 c, .int .i64 nn, .int .i64 b, .int .i64 r, .int .i64 f, .int .i64 g], .int .i64 (64)] Wd (ERow (Wd.heap.size + 1) ((rI m (K * m)).map ev3) Wd) from by rw [← rI_rnd, show (64 : Int) = (K : Int) from by omega]; exact round_is p c nn b r f g m K Wd hm hnb hp hK64)
  have HDR := Lib.hid (fun Wd (h : IAt Wd A3 numbers) => drawn_is p c nn b r f g m A3 cap3 numbers Wd h hl3 hm hnb hp)
  have HWE := Lib.hid (fun Wd (h : IAt Wd A4 W) => show Calls Try.prog 23 #[.slice A4 W.length cap4, .int .i64 (64)] Wd (ERow Wd.heap.size ((wk W K).map ev3) Wd) from by rw [show (64 : Int) = (K : Int) from by omega]; exact weighted_is A4 cap4 W K Wd h hl4 hK64)
  have HSM := Lib.hid (fun (X : List Int) (A : Option Addr) (c : Nat) (B : Option Addr) (cb : Nat) (Wd : World) (h : EAt Wd A (X.map ev3)) (hI : IAt Wd B X) (hl : X.length ≤ 200000) => show Calls Try.prog 20 #[.slice A X.length c, .slice B X.length cb] Wd fun e w' => e = .returned (.bool true) ∧ Below Wd.heap.size Wd w' from by have h2 := same_is A c (X.map ev3) B cb X Wd h hI (sm_ev3 X) hl; rw [List.length_map] at h2; exact h2)
  have HRP := Lib.hid (fun (x : Int) Wd => refpick_is x (m : Int) Wd (by omega) (by omega))
  have HB14 := Lib.hid (show (List.replicate NB ag).length ≤ 200000 from by rw [List.length_replicate]; omega)
  have HB15 := Lib.hid (show (rI m (K * m)).length ≤ 200000 from by rw [rI_len]; have : K * m ≤ 64 * 30 := Nat.mul_le_mul hK64 (by omega); omega)
  have HB16 := Lib.hid (show (numbers.map (fun x => pkS x (m : Int))).length ≤ 200000 from by rw [List.length_map]; omega)
  have HB17 := Lib.hid (show (wk W K).length ≤ 200000 from Nat.le_trans (wk_len W K) (Nat.le_trans (Nat.mul_le_mul hK64 (Nat.mul_le_mul (Nat.le_refl 64) hl4)) (by omega)))
  have hnb2 : 2 * nn * b = (m : Int) - p := by rw [hm, Int.mul_assoc]; omega
  have hpm : p + ((m : Int) - p) = (m : Int) := by omega
  have m2 : m ≤ 30 := by omega
  have m0 : (0 : Int) ≤ (m : Int) := by omega
  have m1 : (m : Int) ≤ 30 := by omega
  have HNB := Lib.hid hNB
  have HK := Lib.hid hK
  obtain ⟨p0, p1⟩ := hp
  obtain ⟨n0, n1⟩ := hn
  have mp : p ≤ (m : Int) := by omega
  have l3 : (numbers.length : Int) ≤ 200 := by omega
  have l4 : (W.length : Int) ≤ 20 := by omega
  have l3d : decide ((200 : Int) < (numbers.length : Int)) = false := decide_eq_false (by omega)
  have l4d : decide ((20 : Int) < (W.length : Int)) = false := decide_eq_false (by omega)
  have bx0 := Blk7.new w p c nn b r f g 23
  clear hI3 hI4 hm hnb hc hb hr hf hg hj hj0 hj1 hj2 hNB hK
  go_enter Try.func4, Try.ntmps4
  go_wp2_with fail
  refine (HN.out _).mono ?_
  rintro e w1 ⟨rfl, hb1⟩
  have bx1 := bx0.below hb1
  have hB1 : Below w.heap.size w w1 := Below.step (by go_grown) hb1
  clear hb1 bx0
  have hB1a := hB1.alloc hB1.size (.cells #[.int .i64 p, .int .i64 c, .int .i64 nn, .int .i64 b, .int .i64 r, .int .i64 f, .int .i64 g] 25)
  have bC1 := bx1.below (show Below w1.heap.size w1 (w1.alloc (.cells #[.int .i64 p, .int .i64 c, .int .i64 nn, .int .i64 b, .int .i64 r, .int .i64 f, .int .i64 g] 25)) from by go_grown)
  have bR1 := Blk7.new w1 p c nn b r f g 25
  obtain ⟨⟨c0, c1, c2, c3, c4, c5, c6⟩, hlx⟩ := id bx1
  go_wp2_with fail
  refine (HCK.out _).mono ?_
  rintro e w2 ⟨rfl, hb2⟩
  have hB2 : Below w.heap.size w w2 := Below.step hB1a hb2
  have bC2 := bC1.below hb2
  have bR2 := bR1.below hb2
  clear hb2 bC1 bR1 bx1 c0 c1 c2 c3 c4 c5 c6 hlx hB1 hB1a
  obtain ⟨⟨c0, c1, c2, c3, c4, c5, c6⟩, hlx⟩ := id bC2
  go_wp2_with fail
  clear c0 c1 c2 c3 c4 c5 c6 hlx hpm hnb2 bC2
  go_loopw [14, 63] (fun v i wr => ∃ k : Nat, k ≤ NB ∧ i = .int .i64 (k : Int) ∧ Hid (One w2.heap.size wr v (List.replicate k ag)) ∧ Below w2.heap.size w2 wr) (fun _ i _ => NB + 1 - (intOf i).toNat)
  case atStart => exact ⟨0, Nat.zero_le _, rfl, One.nil _ _, Below.refl _ _⟩
  case round =>
    obtain ⟨k, hk, rfl, HO, hB⟩ := hrel
    have k0 : (0 : Int) ≤ (k : Int) := by omega
    by_cases hkl : k < NB
    · have k1 : (k : Int) < 65536 := by have := HNB.out; omega
      have k9 : (k : Int) ≤ 65536 := by have := HNB.out; omega
      have HSN := Lib.hid (show List.replicate (k + 1) ag = List.replicate k ag ++ [ag] from List.replicate_succ')
      have N1 := Lib.hid (show (List.replicate k ag).length + 1 ≤ maxLen from by rw [List.length_replicate]; unfold maxLen; omega)
      have N2 := Lib.hid (show ((List.replicate k ag).length + 1) * 8 ≤ 140737488355328 from by rw [List.length_replicate]; omega)
      have HR := Lib.hid (reads_newN wr 1 1 [.int .i64 ag] 3 rfl)
      have HO1 := Lib.hid (World.ownsRow.alloc HO.out (Obj.cells #[.int .i64 ag] 3))
      have N3 := Lib.hid (show w2.heap.size ≤ (wr.alloc (Obj.cells #[.int .i64 ag] 3)).heap.size from by have h := hB.size; simp; omega)
      have NV := Lib.hid (ints_oneCell .i64 [ag])
      have hBA := hB.alloc hB.size (Obj.cells #[.int .i64 ag] 3)
      go_wp2_with (at_builtin; refine wpList_append_any _ rfl (.tmp 65) (.tmp 67) 35 rfl w2.heap.size 3 j0 (.int .i64 0) 1 8 Try.underlying35 HJ.out HJ0.out HJ1.out HJ2.out rfl (by decide) _ (List.replicate k ag).length ((List.replicate k ag).map (Value.int .i64)) rfl HO1.out _ (some ⟨wr.heap.size, 0, none⟩) 1 1 _ rfl HR.out NV.out N1.out N2.out N3.out ?_; intro v3 w3 hown3 hgrow3 hblk3; have HP := Lib.hid (And.intro hown3 (And.intro hgrow3 hblk3)); clear hown3 hgrow3 hblk3)
      go_roundw
      case rel => exact ⟨k + 1, by omega, by go_num, by refine Lib.hid ?_; rw [HSN.out]; exact One.app HP.out.1, Below.grown hBA HP.out.2.1 hBA.size (fun g e => (HO1.out.lt g e).1)⟩
      case measure => simp [intOf]; omega
    · obtain rfl : NB = k := by omega
      have hd : decide ((NB : Int) < 65536) = false := decide_eq_false (by have := HNB.out; omega)
      have bR3 := bR2.below hB
      have hB3 := Below.step hB2 hB
      have hO14 := HO.out
      generalize List.replicate NB ag = X14 at *
      clear hB HO hB2 bR2
      obtain ⟨WB, rfl⟩ : ∃ WB, WB = wr := ⟨wr, rfl⟩
      obtain ⟨A14, c14, rfl⟩ := own_shape hO14
      have I14 := Lib.hid (IAt.of_own hO14)
      clear hO14
      go_wp2_with fail
      go_loopw [15, 17, 74] (fun v u i wr => ∃ q : Nat, q ≤ K ∧ i = .int .i64 (q : Int) ∧ Hid (Two WB.heap.size wr v (rI m (q * m)) u (wk W q)) ∧ Below WB.heap.size WB wr) (fun _ _ i _ => K + 1 - (intOf i).toNat)
      case atStart => exact ⟨0, Nat.zero_le _, rfl, by rw [Nat.zero_mul]; exact ⟨One.nil _ _, One.nil _ _, fun g h => by cases h⟩, Below.refl _ _⟩
      case round =>
        obtain ⟨q, hq, rfl, HT, hB⟩ := hrel
        have q0 : (0 : Int) ≤ (q : Int) := by omega
        by_cases hql : q < K
        · have q1 : (q : Int) < 64 := by have := HK.out; omega
          have q9 : (q : Int) ≤ 64 := by have := HK.out; omega
          have HQL := Lib.hid (show (wk W q).length ≤ 64 * (64 * 20) from Nat.le_trans (wk_len W q) (Nat.mul_le_mul (by omega) (by omega)))
          have HQM := Lib.hid (show q * m ≤ 64 * 30 from Nat.mul_le_mul (by omega) (by omega))
          go_wp2_with fail
          go_loopw [15, 77] (fun v i wr => ∃ j : Nat, j ≤ m ∧ i = .int .i64 (j : Int) ∧ Hid (Two WB.heap.size wr v (rI m (q * m + j)) u17 (wk W q)) ∧ Below WB.heap.size WB wr) (fun _ i _ => m + 1 - (intOf i).toNat)
          case atStart => exact ⟨0, Nat.zero_le _, rfl, HT, hB⟩
          case round =>
           clear HT hB
           obtain ⟨j, hj, rfl, HT, hB⟩ := hrel
           have j0' : (0 : Int) ≤ (j : Int) := by omega
           by_cases hjm : j < m
           · have j1 : (j : Int) < (m : Int) := by omega
             have HSN := Lib.hid (rI_next m q j hjm)
             have N1 := Lib.hid (show (rI m (q * m + j)).length + 1 ≤ maxLen from by rw [rI_len]; have := HQM.out; unfold maxLen; omega)
             have N2 := Lib.hid (show ((rI m (q * m + j)).length + 1) * 8 ≤ 140737488355328 from by rw [rI_len]; have := HQM.out; omega)
             have HR := Lib.hid (reads_newN wr 1 1 [.int .i64 (j : Int)] 3 rfl)
             have HO1 := Lib.hid (World.ownsRow.alloc HT.out.1 (Obj.cells #[.int .i64 (j : Int)] 3))
             have N3 := Lib.hid (show WB.heap.size ≤ (wr.alloc (Obj.cells #[.int .i64 (j : Int)] 3)).heap.size from by have h := hB.size; simp; omega)
             have NV := Lib.hid (ints_oneCell .i64 [(j : Int)])
             have hBA := hB.alloc hB.size (Obj.cells #[.int .i64 (j : Int)] 3)
             go_wp2_with (at_builtin; refine wpList_append_any _ rfl (.tmp 80) (.tmp 82) 35 rfl WB.heap.size 3 j0 (.int .i64 0) 1 8 Try.underlying35 HJ.out HJ0.out HJ1.out HJ2.out rfl (by decide) _ (rI m (q * m + j)).length ((rI m (q * m + j)).map (Value.int .i64)) rfl HO1.out _ (some ⟨wr.heap.size, 0, none⟩) 1 1 _ rfl HR.out NV.out N1.out N2.out N3.out ?_; intro v3 w3 hown3 hgrow3 hblk3; have HP := Lib.hid (And.intro hown3 (And.intro hgrow3 hblk3)); clear hown3 hgrow3 hblk3)
             go_roundw
             case rel => exact ⟨j + 1, by omega, by go_num, by refine Lib.hid ?_; rw [HSN.out]; exact Two.app HT.out HP.out.1 HP.out.2.1 HP.out.2.2, Below.grown hBA HP.out.2.1 hBA.size (fun g e => (HO1.out.lt g e).1)⟩
             case measure => simp [intOf]; omega
           · obtain rfl : m = j := by omega
             have hd2 : decide ((m : Int) < (m : Int)) = false := decide_eq_false (by omega)
             go_wp2_with fail
             go_loopw [17, 87] (fun u i wr => ∃ t : Nat, t ≤ W.length ∧ i = .int .i64 (t : Int) ∧ Hid (Two WB.heap.size wr u15 (rI m (q * m + m)) u (wk W q ++ wl W t)) ∧ Below WB.heap.size WB wr) (fun _ i _ => W.length + 1 - (intOf i).toNat)
             case atStart => exact ⟨0, Nat.zero_le _, rfl, by show Hid (Two _ _ _ _ _ (wk W q ++ [])); rw [List.append_nil]; exact HT, hB⟩
             case round =>
              clear HT hB
              obtain ⟨t, ht, rfl, HT, hB⟩ := hrel
              have t0 : (0 : Int) ≤ (t : Int) := by omega
              by_cases htl : t < W.length
              · have t1 : (t : Int) < (W.length : Int) := by omega
                obtain ⟨x, hx⟩ : ∃ e, W[t]? = some e := ⟨_, List.getElem?_eq_getElem htl⟩
                obtain ⟨ad, hA, hadl, hcx⟩ := (H4.out.below (Below.step hB3 hB)) t x hx
                subst hA
                have HXL := Lib.hid (show (wk W q ++ wl W t).length ≤ 99000 from by rw [List.length_append]; have := HQL.out; have := wl_len W t; omega)
                have HNX := Lib.hid (show wk W q ++ wl W (t + 1) = (wk W q ++ wl W t) ++ List.replicate (wnum x) (t : Int) from by rw [wl_next W t x hx, List.append_assoc])
                clear hx
                generalize wk W q ++ wl W t = Y at *
                by_cases hx0 : x ≤ 0
                · have HWN := Lib.hid (show (wnum x : Int) = 0 from by unfold wnum; omega)
                  go_wp2_with fail
                  go_loopw [17, 95] (fun u i wr => ∃ s : Nat, s ≤ wnum x ∧ i = .int .i64 (s : Int) ∧ Hid (Two WB.heap.size wr u15 (rI m (q * m + m)) u (Y ++ List.replicate s (t : Int))) ∧ Below WB.heap.size WB wr) (fun _ i _ => wnum x + 1 - (intOf i).toNat)
                  case atStart => exact ⟨0, Nat.zero_le _, rfl, by rw [List.replicate_zero, List.append_nil]; exact HT, hB⟩
                  case round =>
                    clear HT hB
                    obtain ⟨s, hs, rfl, HT, hB⟩ := hrel
                    have s0 : (0 : Int) ≤ (s : Int) := by omega
                    by_cases hsl : s < wnum x
                    · exfalso
                      have := HWN.out
                      omega
                    · obtain rfl : s = wnum x := by omega
                      have s1d : decide (((wnum x : Nat) : Int) < 0) = false := decide_eq_false (by have := HWN.out; omega)
                      go_wp2_with fail
                      go_roundw
                      case rel => exact ⟨t + 1, by omega, by go_num, by rw [HNX.out]; exact HT, hB⟩
                      case measure => simp [intOf]; omega
                · by_cases hx64 : x ≤ 64
                  · have hx1 : 0 < x := by omega
                    have HWN := Lib.hid (show (wnum x : Int) = x from by unfold wnum; omega)
                    go_wp2_with fail
                    go_loopw [17, 95] (fun u i wr => ∃ s : Nat, s ≤ wnum x ∧ i = .int .i64 (s : Int) ∧ Hid (Two WB.heap.size wr u15 (rI m (q * m + m)) u (Y ++ List.replicate s (t : Int))) ∧ Below WB.heap.size WB wr) (fun _ i _ => wnum x + 1 - (intOf i).toNat)
                    case atStart => exact ⟨0, Nat.zero_le _, rfl, by rw [List.replicate_zero, List.append_nil]; exact HT, hB⟩
                    case round =>
                      clear HT hB
                      obtain ⟨s, hs, rfl, HT, hB⟩ := hrel
                      have s0 : (0 : Int) ≤ (s : Int) := by omega
                      by_cases hsl : s < wnum x
                      · have s1 : (s : Int) < x := by have := HWN.out; omega
                        have HYL := Lib.hid (show (Y ++ List.replicate s (t : Int)).length ≤ 100000 from by rw [List.length_append, List.length_replicate]; have := HXL.out; have := wnum_le x; omega)
                        have HSN := Lib.hid (show Y ++ List.replicate (s + 1) (t : Int) = (Y ++ List.replicate s (t : Int)) ++ [(t : Int)] from by rw [List.replicate_succ', List.append_assoc])
                        have N1 := Lib.hid (show (Y ++ List.replicate s (t : Int)).length + 1 ≤ maxLen from by have := HYL.out; unfold maxLen; omega)
                        have N2 := Lib.hid (show ((Y ++ List.replicate s (t : Int)).length + 1) * 8 ≤ 140737488355328 from by have := HYL.out; omega)
                        have HR := Lib.hid (reads_newN wr 1 1 [.int .i64 (t : Int)] 3 rfl)
                        have HO1 := Lib.hid (World.ownsRow.alloc HT.out.2.1 (Obj.cells #[.int .i64 (t : Int)] 3))
                        have N3 := Lib.hid (show WB.heap.size ≤ (wr.alloc (Obj.cells #[.int .i64 (t : Int)] 3)).heap.size from by have h := hB.size; simp; omega)
                        have NV := Lib.hid (ints_oneCell .i64 [(t : Int)])
                        have hBA := hB.alloc hB.size (Obj.cells #[.int .i64 (t : Int)] 3)
                        go_wp2_with (at_builtin; refine wpList_append_any _ rfl (.tmp 97) (.tmp 99) 35 rfl WB.heap.size 3 j0 (.int .i64 0) 1 8 Try.underlying35 HJ.out HJ0.out HJ1.out HJ2.out rfl (by decide) _ (Y ++ List.replicate s (t : Int)).length ((Y ++ List.replicate s (t : Int)).map (Value.int .i64)) rfl HO1.out _ (some ⟨wr.heap.size, 0, none⟩) 1 1 _ rfl HR.out NV.out N1.out N2.out N3.out ?_; intro v3 w3 hown3 hgrow3 hblk3; have HP := Lib.hid (And.intro hown3 (And.intro hgrow3 hblk3)); clear hown3 hgrow3 hblk3)
                        go_roundw
                        case rel => exact ⟨s + 1, by omega, by go_num, by refine Lib.hid ?_; rw [HSN.out]; exact (Two.app HT.out.swap HP.out.1 HP.out.2.1 HP.out.2.2).swap, Below.grown hBA HP.out.2.1 hBA.size (fun g e => (HO1.out.lt g e).1)⟩
                        case measure => simp [intOf]; omega
                      · obtain rfl : s = wnum x := by omega
                        have s1d : decide (((wnum x : Nat) : Int) < x) = false := decide_eq_false (by have := HWN.out; omega)
                        go_wp2_with fail
                        go_roundw
                        case rel => exact ⟨t + 1, by omega, by go_num, by rw [HNX.out]; exact HT, hB⟩
                        case measure => simp [intOf]; omega
                  · have hx1 : 64 < x := by omega
                    have HWN := Lib.hid (show (wnum x : Int) = 64 from by unfold wnum; omega)
                    go_wp2_with fail
                    go_loopw [17, 95] (fun u i wr => ∃ s : Nat, s ≤ wnum x ∧ i = .int .i64 (s : Int) ∧ Hid (Two WB.heap.size wr u15 (rI m (q * m + m)) u (Y ++ List.replicate s (t : Int))) ∧ Below WB.heap.size WB wr) (fun _ i _ => wnum x + 1 - (intOf i).toNat)
                    case atStart => exact ⟨0, Nat.zero_le _, rfl, by rw [List.replicate_zero, List.append_nil]; exact HT, hB⟩
                    case round =>
                      clear HT hB
                      obtain ⟨s, hs, rfl, HT, hB⟩ := hrel
                      have s0 : (0 : Int) ≤ (s : Int) := by omega
                      by_cases hsl : s < wnum x
                      · have s1 : (s : Int) < 64 := by have := HWN.out; omega
                        have HYL := Lib.hid (show (Y ++ List.replicate s (t : Int)).length ≤ 100000 from by rw [List.length_append, List.length_replicate]; have := HXL.out; have := wnum_le x; omega)
                        have HSN := Lib.hid (show Y ++ List.replicate (s + 1) (t : Int) = (Y ++ List.replicate s (t : Int)) ++ [(t : Int)] from by rw [List.replicate_succ', List.append_assoc])
                        have N1 := Lib.hid (show (Y ++ List.replicate s (t : Int)).length + 1 ≤ maxLen from by have := HYL.out; unfold maxLen; omega)
                        have N2 := Lib.hid (show ((Y ++ List.replicate s (t : Int)).length + 1) * 8 ≤ 140737488355328 from by have := HYL.out; omega)
                        have HR := Lib.hid (reads_newN wr 1 1 [.int .i64 (t : Int)] 3 rfl)
                        have HO1 := Lib.hid (World.ownsRow.alloc HT.out.2.1 (Obj.cells #[.int .i64 (t : Int)] 3))
                        have N3 := Lib.hid (show WB.heap.size ≤ (wr.alloc (Obj.cells #[.int .i64 (t : Int)] 3)).heap.size from by have h := hB.size; simp; omega)
                        have NV := Lib.hid (ints_oneCell .i64 [(t : Int)])
                        have hBA := hB.alloc hB.size (Obj.cells #[.int .i64 (t : Int)] 3)
                        go_wp2_with (at_builtin; refine wpList_append_any _ rfl (.tmp 97) (.tmp 99) 35 rfl WB.heap.size 3 j0 (.int .i64 0) 1 8 Try.underlying35 HJ.out HJ0.out HJ1.out HJ2.out rfl (by decide) _ (Y ++ List.replicate s (t : Int)).length ((Y ++ List.replicate s (t : Int)).map (Value.int .i64)) rfl HO1.out _ (some ⟨wr.heap.size, 0, none⟩) 1 1 _ rfl HR.out NV.out N1.out N2.out N3.out ?_; intro v3 w3 hown3 hgrow3 hblk3; have HP := Lib.hid (And.intro hown3 (And.intro hgrow3 hblk3)); clear hown3 hgrow3 hblk3)
                        go_roundw
                        case rel => exact ⟨s + 1, by omega, by go_num, by refine Lib.hid ?_; rw [HSN.out]; exact (Two.app HT.out.swap HP.out.1 HP.out.2.1 HP.out.2.2).swap, Below.grown hBA HP.out.2.1 hBA.size (fun g e => (HO1.out.lt g e).1)⟩
                        case measure => simp [intOf]; omega
                      · obtain rfl : s = wnum x := by omega
                        have s1d : decide (((wnum x : Nat) : Int) < 64) = false := decide_eq_false (by have := HWN.out; omega)
                        go_wp2_with fail
                        go_roundw
                        case rel => exact ⟨t + 1, by omega, by go_num, by rw [HNX.out]; exact HT, hB⟩
                        case measure => simp [intOf]; omega
              · obtain rfl : t = W.length := by omega
                have hd4 : decide ((W.length : Int) < (W.length : Int)) = false := decide_eq_false (by omega)
                go_wp2_with fail
                go_roundw
                case rel => exact ⟨q + 1, by omega, by go_num, by rw [Nat.add_mul q 1, Nat.one_mul]; exact HT, hB⟩
                case measure => simp [intOf]; omega
        · obtain rfl : K = q := by omega
          have hdq : decide ((K : Int) < 64) = false := decide_eq_false (by have := HK.out; omega)
          have bR4 := bR3.below hB
          have hB4 := Below.step hB3 hB
          obtain ⟨hO15, hO17, _⟩ := HT.out
          generalize rI m (K * m) = X15 at *
          generalize wk W K = X17 at *
          have I14b := Lib.hid (I14.out.below hB)
          clear hB HT hB3 bR3 I14
          obtain ⟨WC, rfl⟩ : ∃ WC, WC = wr := ⟨wr, rfl⟩
          obtain ⟨A15, c15, rfl⟩ := own_shape hO15
          obtain ⟨A17, c17, rfl⟩ := own_shape hO17
          have I15 := Lib.hid (IAt.of_own hO15)
          have I17 := Lib.hid (IAt.of_own hO17)
          clear hO15 hO17
          go_wp2_with fail
          go_loopw [16, 106] (fun v i wr => ∃ k : Nat, k ≤ numbers.length ∧ i = .int .i64 (k : Int) ∧ Hid (One WC.heap.size wr v ((numbers.take k).map (fun x => pkS x (m : Int)))) ∧ Below WC.heap.size WC wr) (fun _ i _ => numbers.length + 1 - (intOf i).toNat)
          case atStart => exact ⟨0, Nat.zero_le _, rfl, One.nil _ _, Below.refl _ _⟩
          case round =>
            obtain ⟨k, hk, rfl, HO, hB⟩ := hrel
            have k0 : (0 : Int) ≤ (k : Int) := by omega
            by_cases hkl : k < numbers.length
            · have k1 : (k : Int) < (numbers.length : Int) := by omega
              obtain ⟨x, hx⟩ : ∃ e, numbers[k]? = some e := ⟨_, List.getElem?_eq_getElem hkl⟩
              obtain ⟨ad, hA, hadl, hcx⟩ := (H3.out.below (Below.step hB4 hB)) k x hx
              subst hA
              have HSN := Lib.hid (show (numbers.take (k + 1)).map (fun x => pkS x (m : Int)) = (numbers.take k).map (fun x => pkS x (m : Int)) ++ [pkS x (m : Int)] from by rw [List.take_add_one, hx, List.map_append]; rfl)
              clear hx
              generalize hy : pkS x (m : Int) = y at HSN
              go_wp2_with fail
              refine (HRP.out x _).mono ?_
              rw [hy]
              rintro e wq ⟨rfl, hbq⟩
              have HOq := Lib.hid (HO.out.below hbq)
              have hBq := Below.step hB hbq
              clear HO hB hbq
              have hB := hBq
              have N1 := Lib.hid (show ((numbers.take k).map (fun x => pkS x (m : Int))).length + 1 ≤ maxLen from by rw [List.length_map, List.length_take]; unfold maxLen; omega)
              have N2 := Lib.hid (show (((numbers.take k).map (fun x => pkS x (m : Int))).length + 1) * 8 ≤ 140737488355328 from by rw [List.length_map, List.length_take]; omega)
              have HR := Lib.hid (reads_newN wq 1 1 [.int .i64 y] 3 rfl)
              have HO1 := Lib.hid (World.ownsRow.alloc HOq.out (Obj.cells #[.int .i64 y] 3))
              have N3 := Lib.hid (show WC.heap.size ≤ (wq.alloc (Obj.cells #[.int .i64 y] 3)).heap.size from by have h := hB.size; simp; omega)
              have NV := Lib.hid (ints_oneCell .i64 [y])
              have hBA := hB.alloc hB.size (Obj.cells #[.int .i64 y] 3)
              go_wp2_with (at_builtin; refine wpList_append_any _ rfl (.tmp 110) (.tmp 114) 35 rfl WC.heap.size 3 j0 (.int .i64 0) 1 8 Try.underlying35 HJ.out HJ0.out HJ1.out HJ2.out rfl (by decide) _ ((numbers.take k).map (fun x => pkS x (m : Int))).length (((numbers.take k).map (fun x => pkS x (m : Int))).map (Value.int .i64)) rfl HO1.out _ (some ⟨wq.heap.size, 0, none⟩) 1 1 _ rfl HR.out NV.out N1.out N2.out N3.out ?_; intro v3 w3 hown3 hgrow3 hblk3; have HP := Lib.hid (And.intro hown3 (And.intro hgrow3 hblk3)); clear hown3 hgrow3 hblk3)
              go_roundw
              case rel => exact ⟨k + 1, by omega, by go_num, by refine Lib.hid ?_; rw [HSN.out]; exact One.app HP.out.1, Below.grown hBA HP.out.2.1 hBA.size (fun g e => (HO1.out.lt g e).1)⟩
              case measure => simp [intOf]; omega
            · obtain rfl : k = numbers.length := by omega
              have hdk : decide ((numbers.length : Int) < (numbers.length : Int)) = false := decide_eq_false (by omega)
              have bR0 := bR4.below hB
              have hB0 := Below.step hB4 hB
              have hO16 := HO.out
              rw [List.take_length] at hO16
              generalize numbers.map (fun x => pkS x (m : Int)) = X16 at *
              have I14_0 := Lib.hid (I14b.out.below hB)
              have I15_0 := Lib.hid (I15.out.below hB)
              have I17_0 := Lib.hid (I17.out.below hB)
              obtain ⟨A16, c16, rfl⟩ := own_shape hO16
              have I16_0 := Lib.hid (IAt.of_own hO16)
              have IL_0 := Lib.hid (H3.out.below hB0)
              have IW_0 := Lib.hid (H4.out.below hB0)
              clear hB HO hB4 bR4 hO16 I14b I15 I17
              by_cases hag : ag < 0
              · go_wp2_with fail
                refine (awake21 _).mono ?_
                rintro e ws ⟨rfl, hb⟩
                have hB1 := Below.step hB0 hb
                have bR1 := bR0.below hb
                have I14_1 := Lib.hid (I14_0.out.below hb)
                have I15_1 := Lib.hid (I15_0.out.below hb)
                have I16_1 := Lib.hid (I16_0.out.below hb)
                have I17_1 := Lib.hid (I17_0.out.below hb)
                have IL_1 := Lib.hid (IL_0.out.below hb)
                have IW_1 := Lib.hid (IW_0.out.below hb)
                clear hb hB0 bR0 I14_0 I15_0 I16_0 I17_0 IL_0 IW_0
                go_wp2_with fail
                refine (HBU.out _).mono ?_
                rintro e ws ⟨v, rfl, hO, hb⟩
                obtain ⟨E14, e14, rfl⟩ := own_shape hO
                clear hO
                have hB2 := Below.step hB1 hb
                have bR2 := bR1.below hb
                have I14_2 := Lib.hid (I14_1.out.below hb)
                have I15_2 := Lib.hid (I15_1.out.below hb)
                have I16_2 := Lib.hid (I16_1.out.below hb)
                have I17_2 := Lib.hid (I17_1.out.below hb)
                have IL_2 := Lib.hid (IL_1.out.below hb)
                have IW_2 := Lib.hid (IW_1.out.below hb)
                clear hb hB1 bR1 I14_1 I15_1 I16_1 I17_1 IL_1 IW_1
                obtain ⟨⟨c0, c1, c2, c3, c4, c5, c6⟩, hlR⟩ := id bR2
                have hNN : ((X14.length : Int) == (X14.length : Int)) = true := by simp
                go_wp2_with fail
                refine (HDR.out _ IL_2.out).mono ?_
                clear c0 c1 c2 c3 c4 c5 c6 hlR
                rintro e ws ⟨v, rfl, hO, hb⟩
                obtain ⟨E16, e16, rfl⟩ := own_shape hO
                have HE := Lib.hid (EAt.of_own hO)
                clear hO
                have hB3 := Below.step hB2 hb
                have bR3 := bR2.below hb
                have I14_3 := Lib.hid (I14_2.out.below hb)
                have I15_3 := Lib.hid (I15_2.out.below hb)
                have I16_3 := Lib.hid (I16_2.out.below hb)
                have I17_3 := Lib.hid (I17_2.out.below hb)
                have IL_3 := Lib.hid (IL_2.out.below hb)
                have IW_3 := Lib.hid (IW_2.out.below hb)
                clear hb hB2 bR2 I14_2 I15_2 I16_2 I17_2 IL_2 IW_2
                go_wp2_with fail
                refine (HSM.out X16 E16 e16 A16 c16 _ HE.out I16_3.out (by first | exact HB14.out | exact HB15.out | exact HB16.out | exact HB17.out)).mono ?_
                rintro e ws ⟨rfl, hb⟩
                clear HE
                have hB4 := Below.step hB3 hb
                have bR4 := bR3.below hb
                have I14_4 := Lib.hid (I14_3.out.below hb)
                have I15_4 := Lib.hid (I15_3.out.below hb)
                have I16_4 := Lib.hid (I16_3.out.below hb)
                have I17_4 := Lib.hid (I17_3.out.below hb)
                have IL_4 := Lib.hid (IL_3.out.below hb)
                have IW_4 := Lib.hid (IW_3.out.below hb)
                clear hb hB3 bR3 I14_3 I15_3 I16_3 I17_3 IL_3 IW_3
                go_wp2_with fail
                go_ret
                exact ⟨rfl, hB4⟩
              · have hagd : decide (ag < 0) = false := decide_eq_false hag
                go_wp2_with fail
                refine (awake21 _).mono ?_
                rintro e ws ⟨rfl, hb⟩
                have hB1 := Below.step hB0 hb
                have bR1 := bR0.below hb
                have I14_1 := Lib.hid (I14_0.out.below hb)
                have I15_1 := Lib.hid (I15_0.out.below hb)
                have I16_1 := Lib.hid (I16_0.out.below hb)
                have I17_1 := Lib.hid (I17_0.out.below hb)
                have IL_1 := Lib.hid (IL_0.out.below hb)
                have IW_1 := Lib.hid (IW_0.out.below hb)
                clear hb hB0 bR0 I14_0 I15_0 I16_0 I17_0 IL_0 IW_0
                go_wp2_with fail
                refine (HBU.out _).mono ?_
                rintro e ws ⟨v, rfl, hO, hb⟩
                obtain ⟨E14, e14, rfl⟩ := own_shape hO
                have HE := Lib.hid (EAt.of_own hO)
                clear hO
                have hB2 := Below.step hB1 hb
                have bR2 := bR1.below hb
                have I14_2 := Lib.hid (I14_1.out.below hb)
                have I15_2 := Lib.hid (I15_1.out.below hb)
                have I16_2 := Lib.hid (I16_1.out.below hb)
                have I17_2 := Lib.hid (I17_1.out.below hb)
                have IL_2 := Lib.hid (IL_1.out.below hb)
                have IW_2 := Lib.hid (IW_1.out.below hb)
                clear hb hB1 bR1 I14_1 I15_1 I16_1 I17_1 IL_1 IW_1
                go_wp2_with fail
                refine (HSM.out X14 E14 e14 A14 c14 _ HE.out I14_2.out (by first | exact HB14.out | exact HB15.out | exact HB16.out | exact HB17.out)).mono ?_
                rintro e ws ⟨rfl, hb⟩
                clear HE
                have hB3 := Below.step hB2 hb
                have bR3 := bR2.below hb
                have I14_3 := Lib.hid (I14_2.out.below hb)
                have I15_3 := Lib.hid (I15_2.out.below hb)
                have I16_3 := Lib.hid (I16_2.out.below hb)
                have I17_3 := Lib.hid (I17_2.out.below hb)
                have IL_3 := Lib.hid (IL_2.out.below hb)
                have IW_3 := Lib.hid (IW_2.out.below hb)
                clear hb hB2 bR2 I14_2 I15_2 I16_2 I17_2 IL_2 IW_2
                obtain ⟨⟨c0, c1, c2, c3, c4, c5, c6⟩, hlR⟩ := id bR3
                go_wp2_with fail
                refine (HRD.out _).mono ?_
                clear c0 c1 c2 c3 c4 c5 c6 hlR
                rintro e ws ⟨v, rfl, hO, hb⟩
                obtain ⟨E15, e15, rfl⟩ := own_shape hO
                have HE := Lib.hid (EAt.of_own hO)
                clear hO
                have hB4 := Below.step hB3 hb
                have bR4 := bR3.below hb
                have I14_4 := Lib.hid (I14_3.out.below hb)
                have I15_4 := Lib.hid (I15_3.out.below hb)
                have I16_4 := Lib.hid (I16_3.out.below hb)
                have I17_4 := Lib.hid (I17_3.out.below hb)
                have IL_4 := Lib.hid (IL_3.out.below hb)
                have IW_4 := Lib.hid (IW_3.out.below hb)
                clear hb hB3 bR3 I14_3 I15_3 I16_3 I17_3 IL_3 IW_3
                go_wp2_with fail
                refine (HSM.out X15 E15 e15 A15 c15 _ HE.out I15_4.out (by first | exact HB14.out | exact HB15.out | exact HB16.out | exact HB17.out)).mono ?_
                rintro e ws ⟨rfl, hb⟩
                clear HE
                have hB5 := Below.step hB4 hb
                have bR5 := bR4.below hb
                have I14_5 := Lib.hid (I14_4.out.below hb)
                have I15_5 := Lib.hid (I15_4.out.below hb)
                have I16_5 := Lib.hid (I16_4.out.below hb)
                have I17_5 := Lib.hid (I17_4.out.below hb)
                have IL_5 := Lib.hid (IL_4.out.below hb)
                have IW_5 := Lib.hid (IW_4.out.below hb)
                clear hb hB4 bR4 I14_4 I15_4 I16_4 I17_4 IL_4 IW_4
                obtain ⟨⟨c0, c1, c2, c3, c4, c5, c6⟩, hlR⟩ := id bR5
                go_wp2_with fail
                refine (HDR.out _ IL_5.out).mono ?_
                clear c0 c1 c2 c3 c4 c5 c6 hlR
                rintro e ws ⟨v, rfl, hO, hb⟩
                obtain ⟨E16, e16, rfl⟩ := own_shape hO
                have HE := Lib.hid (EAt.of_own hO)
                clear hO
                have hB6 := Below.step hB5 hb
                have bR6 := bR5.below hb
                have I14_6 := Lib.hid (I14_5.out.below hb)
                have I15_6 := Lib.hid (I15_5.out.below hb)
                have I16_6 := Lib.hid (I16_5.out.below hb)
                have I17_6 := Lib.hid (I17_5.out.below hb)
                have IL_6 := Lib.hid (IL_5.out.below hb)
                have IW_6 := Lib.hid (IW_5.out.below hb)
                clear hb hB5 bR5 I14_5 I15_5 I16_5 I17_5 IL_5 IW_5
                go_wp2_with fail
                refine (HSM.out X16 E16 e16 A16 c16 _ HE.out I16_6.out (by first | exact HB14.out | exact HB15.out | exact HB16.out | exact HB17.out)).mono ?_
                rintro e ws ⟨rfl, hb⟩
                clear HE
                have hB7 := Below.step hB6 hb
                have bR7 := bR6.below hb
                have I14_7 := Lib.hid (I14_6.out.below hb)
                have I15_7 := Lib.hid (I15_6.out.below hb)
                have I16_7 := Lib.hid (I16_6.out.below hb)
                have I17_7 := Lib.hid (I17_6.out.below hb)
                have IL_7 := Lib.hid (IL_6.out.below hb)
                have IW_7 := Lib.hid (IW_6.out.below hb)
                clear hb hB6 bR6 I14_6 I15_6 I16_6 I17_6 IL_6 IW_6
                go_wp2_with fail
                refine (HWE.out _ IW_7.out).mono ?_
                rintro e ws ⟨v, rfl, hO, hb⟩
                obtain ⟨E17, e17, rfl⟩ := own_shape hO
                have HE := Lib.hid (EAt.of_own hO)
                clear hO
                have hB8 := Below.step hB7 hb
                have bR8 := bR7.below hb
                have I14_8 := Lib.hid (I14_7.out.below hb)
                have I15_8 := Lib.hid (I15_7.out.below hb)
                have I16_8 := Lib.hid (I16_7.out.below hb)
                have I17_8 := Lib.hid (I17_7.out.below hb)
                have IL_8 := Lib.hid (IL_7.out.below hb)
                have IW_8 := Lib.hid (IW_7.out.below hb)
                clear hb hB7 bR7 I14_7 I15_7 I16_7 I17_7 IL_7 IW_7
                go_wp2_with fail
                refine (HSM.out X17 E17 e17 A17 c17 _ HE.out I17_8.out (by first | exact HB14.out | exact HB15.out | exact HB16.out | exact HB17.out)).mono ?_
                rintro e ws ⟨rfl, hb⟩
                clear HE
                have hB9 := Below.step hB8 hb
                have bR9 := bR8.below hb
                have I14_9 := Lib.hid (I14_8.out.below hb)
                have I15_9 := Lib.hid (I15_8.out.below hb)
                have I16_9 := Lib.hid (I16_8.out.below hb)
                have I17_9 := Lib.hid (I17_8.out.below hb)
                have IL_9 := Lib.hid (IL_8.out.below hb)
                have IW_9 := Lib.hid (IW_8.out.below hb)
                clear hb hB8 bR8 I14_8 I15_8 I16_8 I17_8 IL_8 IW_8
                go_wp2_with fail
                go_ret
                exact ⟨rfl, hB9⟩
theorem walk (a0_0 a0_1 a0_2 a0_3 a0_4 a0_5 a0_6 : Int) (a1 a2 : Int) (a3 : Option Addr) (len3 cap3 : Nat) (z3 : List Int) (a4 : Option Addr) (len4 cap4 : Nat) (z4 : List Int) (w : World) (_ : (Lit.int .i64 a0_0).wf = true) (_ : (Lit.int .i64 a0_1).wf = true) (_ : (Lit.int .i64 a0_2).wf = true) (_ : (Lit.int .i64 a0_3).wf = true) (_ : (Lit.int .i64 a0_4).wf = true) (_ : (Lit.int .i64 a0_5).wf = true) (_ : (Lit.int .i64 a0_6).wf = true) (_ : (Lit.int .i64 a1).wf = true) (_ : (Lit.int .i64 a2).wf = true) (w3 : IsRow .i64 w a3 len3 cap3 z3) (w4 : IsRow .i64 w a4 len4 cap4 z4) :
    Calls Try.prog 4 #[.agg #[.int .i64 a0_0, .int .i64 a0_1, .int .i64 a0_2, .int .i64 a0_3, .int .i64 a0_4, .int .i64 a0_5, .int .i64 a0_6], .int .i64 a1, .int .i64 a2, .slice a3 len3 cap3, .slice a4 len4 cap4] w fun e w' => e = .returned (.bool true) ∧ Below w.heap.size w w' := by
  have hlm : ∀ (a : Option Addr) (len cap : Nat) (z : List Int), IsRow .i64 w a len cap z → len ≤ 9223372036854775807 := by
    intro a len cap z h
    rcases h with ⟨rfl, rfl, rfl, rfl⟩ | ⟨x, rfl, hlc, hcm, _⟩
    · omega
    · unfold maxLen at hcm; omega
  by_cases h : (1 ≤ a0_0 ∧ a0_0 ≤ 6) ∧ (1 ≤ a0_1 ∧ a0_1 ≤ 4) ∧ (1 ≤ a0_2 ∧ a0_2 ≤ 3) ∧ (1 ≤ a0_3 ∧ a0_3 ≤ 4) ∧ (0 ≤ a0_4 ∧ a0_4 ≤ 4) ∧ (1 ≤ a0_5 ∧ a0_5 ≤ 4) ∧ (1 ≤ a0_6 ∧ a0_6 ≤ 15)
  · obtain ⟨hp, hc, hn, hb, hr, hf, hg⟩ := h
    have hnb := mul12 hn hb
    by_cases hl : len3 ≤ 200
    · by_cases hl4 : len4 ≤ 20
      · obtain ⟨hI3, hlen3⟩ := IAt.of w3
        obtain ⟨hI4, hlen4⟩ := IAt.of w4
        have hm : (((a0_0 + 2 * (a0_2 * a0_3)).toNat : Nat) : Int) = a0_0 + 2 * (a0_2 * a0_3) := by omega
        rw [← hlen3, ← hlen4]
        rcases (show a2 ≤ 0 ∨ (0 < a2 ∧ a2 ≤ 64) ∨ (64 < a2 ∧ a2 ≤ 65536) ∨ 65536 < a2 from by omega) with h | h | h | h
        · exact main_a _ _ _ _ _ _ _ a1 a2 (a0_0 + 2 * (a0_2 * a0_3)).toNat (max 0 (min a2 65536)).toNat (max 0 (min a2 64)).toNat a3 cap3 _ a4 cap4 _ w hp hc hn hb hr hf hg hm hI3 (by omega) hI4 (by omega) (by omega) (by omega) h
        · exact main_b _ _ _ _ _ _ _ a1 a2 (a0_0 + 2 * (a0_2 * a0_3)).toNat (max 0 (min a2 65536)).toNat (max 0 (min a2 64)).toNat a3 cap3 _ a4 cap4 _ w hp hc hn hb hr hf hg hm hI3 (by omega) hI4 (by omega) (by omega) (by omega) h
        · exact main_c _ _ _ _ _ _ _ a1 a2 (a0_0 + 2 * (a0_2 * a0_3)).toNat (max 0 (min a2 65536)).toNat (max 0 (min a2 64)).toNat a3 cap3 _ a4 cap4 _ w hp hc hn hb hr hf hg hm hI3 (by omega) hI4 (by omega) (by omega) (by omega) h
        · exact main_d _ _ _ _ _ _ _ a1 a2 (a0_0 + 2 * (a0_2 * a0_3)).toNat (max 0 (min a2 65536)).toNat (max 0 (min a2 64)).toNat a3 cap3 _ a4 cap4 _ w hp hc hn hb hr hf hg hm hI3 (by omega) hI4 (by omega) (by omega) (by omega) h
      · exact long2 _ _ _ _ _ _ _ a1 a2 a3 len3 cap3 a4 len4 cap4 w hp hc hn hb hr hf hg hl (by omega) (hlm _ _ _ _ w4)
    · exact long1 _ _ _ _ _ _ _ a1 a2 a3 len3 cap3 a4 len4 cap4 w hp hc hn hb hr hf hg (by omega) (hlm _ _ _ _ w3)
  · exact bad _ _ _ _ _ _ _ a1 a2 a3 len3 cap3 a4 len4 cap4 w h
end Go.Proofs.Ytdlgpbmeeiakdaa.planLays

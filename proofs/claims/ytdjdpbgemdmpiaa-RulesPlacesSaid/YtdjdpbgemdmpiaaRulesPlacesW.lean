/-
  The walk of RulesPlaces.
-/
import Derived.Test.YtdjdpbgemdmpiaaRows
import Derived.WalkKit
import Derived.ProofKit
import Derived.OpenShut
import Derived.ShutString
import Derived.Below
import Derived.Outline
import Derived.WalkLawsBesides
import Derived.WalkSpells
import Derived.Handy
import Derived.Deep.QuietTactic
import Derived.BigQuiet
import Derived.RegionTactic
import Derived.ChangeAlike
import Derived.Lib.Hide
import Derived.Laws.Rows
import Derived.Laws.Tables
import Derived.Laws.CopyOwn
import Derived.Laws.MakeOwn
import Derived.Laws.Entries
import Derived.Laws.OwnMore
import Derived.Deep.WholeRow
import Derived.Deep.LoopGhost
import Derived.Deep.AppendLies
import Derived.Deep.Draws
import Derived.Maps.AppendAt
import Derived.OwnWalk
import Derived.Deep.RegionHeld3
import Derived.Deep.Cut
import Derived.Deep.CutRange
import Derived.Deep.DeepCutAuto
import Derived.Deep.CutBlock
import Derived.Lib.SliceRun
import Derived.IntWalk
import Derived.Test.YtdjdpbgemdmpiaaKit
import Derived.Test.YtdjdpbgemdmpiaaApp
import Derived.Test.YtdjdpbgemdmpiaaPl
import Derived.Test.YtdjdpbgemdmpiaaPlaces
import Derived.Test.YtdjdpbgemdmpiaaQuiet
import Derived.Test.YtdjdpbgemdmpiaaRules
import Derived.Test.YtdjdpbgemdmpiaaCheck
import Derived.Test.YtdjdpbgemdmpiaaAts
namespace Go.Proofs.Ytdjdpbgemdmpiaa.rulesPlaces
open Go.ChangeShapes Go.WideShapes Go.ChangeAt Go.RowKit
theorem pk_three (A i : Nat) (h : pk A i = 3) : ¬ i < 2 * A := by
  intro h2
  unfold pk at h
  rw [if_pos h2] at h
  omega
set_option maxRecDepth 100000 in
set_option maxHeartbeats 4000000 in
theorem bad (p c n b r f g x y z : Int) (w : World) (h : ¬ ((1 ≤ p ∧ p ≤ 6) ∧ (1 ≤ c ∧ c ≤ 4) ∧ (1 ≤ n ∧ n ≤ 3) ∧ (1 ≤ b ∧ b ≤ 4) ∧ (0 ≤ r ∧ r ≤ 4) ∧ (1 ≤ f ∧ f ≤ 4) ∧ (1 ≤ g ∧ g ≤ 15))) :
    Calls Try.prog 5 #[.agg #[.int .i64 p, .int .i64 c, .int .i64 n, .int .i64 b, .int .i64 r, .int .i64 f, .int .i64 g], .int .i64 x, .int .i64 y, .int .i64 z] w fun e w' => e = .returned (.bool true) ∧ Below w.heap.size w w' := by
  have HN := Lib.hid (fun W => rnew_bad p c n b r f g W h)
  have HC := Lib.hid (fun W => check_bad p c n b r f g W h)
  clear h
  have bx0 := Blk7.new w p c n b r f g 58
  go_enter Try.func5, Try.ntmps5
  go_wp2_with fail
  refine (HN.out _).mono ?_
  rintro e w1 ⟨T, v, rfl, hb1⟩
  have bx1 := bx0.below hb1
  have hB1 : Below w.heap.size w w1 := Below.step (by go_grown) hb1
  clear hb1 bx0
  obtain ⟨⟨c0, c1, c2, c3, c4, c5, c6⟩, hl⟩ := id bx1
  go_wp2_with fail
  refine (HC.out _).mono ?_
  rintro e w2 ⟨i, rfl, hb2⟩
  have hB2 : Below w.heap.size w w2 := Below.step (hB1.alloc hB1.size _) hb2
  clear hb2
  have hi : (0 : Int) ≤ (i : Int) := by omega
  go_wp2_with fail
  refine (awake31 _).mono ?_
  rintro e w3 ⟨rfl, hb3⟩
  have hB3 := Below.step hB2 hb3
  go_wp2
  go_ret
  exact ⟨rfl, hB3⟩
set_option maxRecDepth 100000 in
set_option maxHeartbeats 8000000 in
theorem main (p c f g A : Nat) (n b r x y z : Int) (w : World) (hp : 1 ≤ p ∧ p ≤ 6) (hc : 1 ≤ c ∧ c ≤ 4) (hn : 1 ≤ n ∧ n ≤ 3) (hb : 1 ≤ b ∧ b ≤ 4) (hr : 0 ≤ r ∧ r ≤ 4) (hf : 1 ≤ f ∧ f ≤ 4) (hg : 1 ≤ g ∧ g ≤ 15) (hA : A = p * c) (hA4 : A ≤ 24) (hA1 : 1 ≤ A) (res : Int)
    (hS : ∀ W, Calls Try.prog 31 #[.agg #[.int .i64 (p : Int), .int .i64 (c : Int), .int .i64 n, .int .i64 b, .int .i64 r, .int .i64 (f : Int), .int .i64 (g : Int)], .int .i64 x, .int .i64 y, .int .i64 z] W fun e w' => e = .returned (.int .i64 res) ∧ Below W.heap.size W w')
    (hT : ∀ (B cap : Nat) (W : World), PReads A g (f + 1) (ix A g (f + 1) A 0 0) B W → Calls Try.prog 32 #[.slice (some ⟨B, 0, none⟩) (ix A g (f + 1) A 0 0) cap, .agg #[.int .i64 3, .int .i64 x, .int .i64 y, .int .i64 z]] W fun e w' => e = .returned (.int .i64 res) ∧ Below W.heap.size W w') :
    Calls Try.prog 5 #[.agg #[.int .i64 (p : Int), .int .i64 (c : Int), .int .i64 n, .int .i64 b, .int .i64 r, .int .i64 (f : Int), .int .i64 (g : Int)], .int .i64 x, .int .i64 y, .int .i64 z] w fun e w' => e = .returned (.bool true) ∧ Below w.heap.size w w' := by
  have HN := Lib.hid (fun W => rnew_ok p c n b r f g W (by omega) (by omega) hn hb hr (by omega) (by omega))
  have HC := Lib.hid (fun W => check_ok p c n b r f g W (by omega) (by omega) hn hb hr (by omega) (by omega))
  have HPL := Lib.hid (fun W => places_is p c f g A n b r W hp hc hf hg hA hA4)
  have HST := Lib.hid (fun W i (hi : i < A) => state_at p c A i n b r f g W hA hA4 hi)
  have HTM := Lib.hid (fun W i (hi : i < A) => terms_at p c A i n b r f g W hA hA4 hi)
  have HSI := Lib.hid (fun W i t q (hi : i < A) (ht : t < g) (hq : q < f + 1) => slot_in p c A i t q f g n b r W hA hA4 hf.2 hg.2 hi ht hq)
  have HS := Lib.hid hS
  have HT := Lib.hid hT
  have HL := Lib.hid (And.intro hf hg)
  obtain ⟨T, hTT⟩ : ∃ T, T = ix A g (f + 1) A 0 0 := ⟨_, rfl⟩
  have hT0 : T = 2 * A + A * (g * (f + 1)) := by rw [hTT]; unfold ix; rw [Nat.add_zero, Nat.add_zero, Nat.mul_assoc]
  have hT1 : T ≤ 2000 := by
    have h2 : A * (g * (f + 1)) ≤ 24 * (15 * 5) := Nat.mul_le_mul hA4 (Nat.mul_le_mul (by omega) (by omega))
    omega
  have hT2 : 0 < T := by omega
  have HTT := Lib.hid hTT
  have HT0 := Lib.hid hT0
  clear hS hT hA hn hb hr hp hc hf hg hTT hT0
  have bx0 := Blk7.new w p c n b r f g 58
  go_enter Try.func5, Try.ntmps5
  go_wp2_with fail
  refine (HN.out _).mono ?_
  rintro e w1 ⟨rfl, hb1⟩
  have bx1 := bx0.below hb1
  have hB1 : Below w.heap.size w w1 := Below.step (by go_grown) hb1
  clear hb1 bx0
  obtain ⟨⟨c0, c1, c2, c3, c4, c5, c6⟩, hl⟩ := id bx1
  have bR1 := Blk7.new w1 p c n b r f g 60
  go_wp2_with fail
  refine (HC.out _).mono ?_
  rintro e w2 ⟨rfl, hb2⟩
  have hB2 : Below w.heap.size w w2 := Below.step (hB1.alloc hB1.size _) hb2
  have bx2 := (bx1.below (show Below w1.heap.size w1 (w1.alloc (.cells #[.int .i64 (p : Int), .int .i64 (c : Int), .int .i64 n, .int .i64 b, .int .i64 r, .int .i64 (f : Int), .int .i64 (g : Int)] 60)) from by go_grown)).below hb2
  have bR2 := bR1.below hb2
  clear hb2 bx1 bR1 c0 c1 c2 c3 c4 c5 c6
  obtain ⟨⟨c0, c1, c2, c3, c4, c5, c6⟩, hl2⟩ := id bx2
  go_wp2_with fail
  refine (HPL.out _).mono ?_
  rintro e w3 ⟨v, rfl, hO, hb3⟩
  rw [← HTT.out] at hO
  obtain ⟨B, cap, rfl, hPR⟩ := preads_of hO hT2
  have hB3 : Below w.heap.size w w3 := Below.step hB2 hb3
  have bR3 := bR2.below hb3
  have HPR := Lib.hid hPR
  clear hb3 bx2 bR2 hO hPR c0 c1 c2 c3 c4 c5 c6 hl hl2
  go_wp2_with fail
  go_loopw [32] (fun i wr => ∃ k : Nat, k ≤ T ∧ i = .int .i64 k ∧ Below w.heap.size w wr ∧ Blk7 w1.heap.size p c n b r f g wr ∧ Hid (PReads A g (f + 1) T B wr)) (fun i _ => T + 1 - (intOf i).toNat)
  case atStart => exact ⟨0, Nat.zero_le _, rfl, hB3, bR3, HPR⟩
  case round =>
    clear hB3 bR3 HPR
    obtain ⟨k, hk, rfl, hB, bR, HPR⟩ := hrel
    have hsz := hB.size
    by_cases hkT : k < T
    · obtain ⟨d0, d1, d2, d3⟩ := HPR.out.2 k hkT
      have hlB := HPR.out.1
      have hci : pc A g (f + 1) k < A := pc_lt A g (f + 1) k (by have := HL.out; omega) (by omega) (by rw [← HT0.out]; exact hkT)
      have k0 : (0 : Int) ≤ (k : Int) := by omega
      have k1 : (k : Int) < (T : Int) := by omega
      have HNEW := Lib.hid (show True from trivial)
      obtain ⟨⟨c0, c1, c2, c3, c4, c5, c6⟩, hlR⟩ := id bR
      by_cases h2 : k < 2 * A
      · by_cases hpar : k % 2 = 0
        · have hk1 : pk A k = 1 := by unfold pk; rw [if_pos h2]; omega
          have hcc : 2 * ((pc A g (f + 1) k : Nat) : Int) = (k : Int) := by unfold pc; rw [if_pos h2]; omega
          rw [hk1] at d0
          have HCC := Lib.hid hcc
          clear hk1 hcc
          have HST1 := Lib.hid (fun W => HST.out W (pc A g (f + 1) k) hci)
          have ha0 : (0 : Int) ≤ ((pc A g (f + 1) k : Nat) : Int) := by omega
          generalize ((pc A g (f + 1) k : Nat) : Int) = a1 at *
          generalize ((pg A g (f + 1) k : Nat) : Int) = a2 at *
          generalize ((pn A (f + 1) k : Nat) : Int) = a3 at *
          go_wp2_with fail
          refine (HST1.out _).mono ?_
          rintro e w4 ⟨rfl, hb4⟩
          have hg4 : Below wr.heap.size wr w4 := Below.step (show Below wr.heap.size wr (wr.alloc (.cells #[.int .i64 1, .int .i64 a1, .int .i64 a2, .int .i64 a3] 67)) from by go_grown) hb4
          have y0 := (hb4.cell (p := ⟨wr.heap.size, 0, none⟩) (by simp)).trans (show (wr.alloc (.cells #[.int .i64 1, .int .i64 a1, .int .i64 a2, .int .i64 a3] 67)).cell? ⟨wr.heap.size, 0, none⟩ = some (.int .i64 1) from by simp [go_sem])
          have hB4 := Below.step hB hg4
          have bR4 := bR.below hg4
          have HP4 := Lib.hid (HPR.out.below hg4)
          clear hb4 hg4 d0 d1 d2 d3 c0 c1 c2 c3 c4 c5 c6 hlR
          rw [HCC.out]
          have hkk : ((k : Int) != (k : Int)) = false := by simp
          go_wp2_with fail
          go_roundw
          case rel => exact ⟨k + 1, by omega, by go_num, hB4, bR4, HP4⟩
          case measure => simp [intOf]; omega
        · have hk1 : pk A k = 2 := by unfold pk; rw [if_pos h2]; omega
          have hcc : 2 * ((pc A g (f + 1) k : Nat) : Int) + 1 = (k : Int) := by unfold pc; rw [if_pos h2]; omega
          rw [hk1] at d0
          have HCC := Lib.hid hcc
          clear hk1 hcc
          have HST1 := Lib.hid (fun W => HST.out W (pc A g (f + 1) k) hci)
          have HTM1 := Lib.hid (fun W => HTM.out W (pc A g (f + 1) k) hci)
          have ha0 : (0 : Int) ≤ ((pc A g (f + 1) k : Nat) : Int) := by omega
          generalize ((pc A g (f + 1) k : Nat) : Int) = a1 at *
          generalize ((pg A g (f + 1) k : Nat) : Int) = a2 at *
          generalize ((pn A (f + 1) k : Nat) : Int) = a3 at *
          go_wp2_with fail
          refine (HST1.out _).mono ?_
          rintro e w4 ⟨rfl, hb4⟩
          have hg4 : Below wr.heap.size wr w4 := Below.step (show Below wr.heap.size wr (wr.alloc (.cells #[.int .i64 2, .int .i64 a1, .int .i64 a2, .int .i64 a3] 67)) from by go_grown) hb4
          have y0 := (hb4.cell (p := ⟨wr.heap.size, 0, none⟩) (by simp)).trans (show (wr.alloc (.cells #[.int .i64 2, .int .i64 a1, .int .i64 a2, .int .i64 a3] 67)).cell? ⟨wr.heap.size, 0, none⟩ = some (.int .i64 2) from by simp [go_sem])
          have y1 := (hb4.cell (p := ⟨wr.heap.size, 1, none⟩) (by simp)).trans (show (wr.alloc (.cells #[.int .i64 2, .int .i64 a1, .int .i64 a2, .int .i64 a3] 67)).cell? ⟨wr.heap.size, 1, none⟩ = some (.int .i64 a1) from by simp [go_sem])
          have hl4 : wr.heap.size < w4.heap.size := Nat.lt_of_lt_of_le (by simp) hb4.size
          have hB4 := Below.step hB hg4
          have bR4 := bR.below hg4
          have HP4 := Lib.hid (HPR.out.below hg4)
          clear hb4 hg4 d0 d1 d2 d3 c0 c1 c2 c3 c4 c5 c6 hlR
          obtain ⟨⟨c0, c1, c2, c3, c4, c5, c6⟩, hlR⟩ := id bR4
          go_wp2_with fail
          refine (HTM1.out _).mono ?_
          rintro e w5 ⟨rfl, hb5⟩
          have hB5 := Below.step hB4 hb5
          have bR5 := bR4.below hb5
          have HP5 := Lib.hid (HP4.out.below hb5)
          have z0 := (hb5.cell (p := ⟨wr.heap.size, 0, none⟩) hl4).trans y0
          clear hb5 y0 y1 c0 c1 c2 c3 c4 c5 c6 hlR
          rw [HCC.out]
          have hkk : ((k : Int) != (k : Int)) = false := by simp
          go_wp2_with fail
          go_roundw
          case rel => exact ⟨k + 1, by omega, by go_num, hB5, bR5, HP5⟩
          case measure => simp [intOf]; omega
      · obtain ⟨hix, ht, hq, hg1⟩ := ix_back A g (f + 1) k (by have := HL.out; omega) (by omega) h2
        have hk1 : pk A k = 3 := by unfold pk; rw [if_neg h2]
        obtain ⟨t, htt⟩ : ∃ t, pg A g (f + 1) k = t + 1 := ⟨pg A g (f + 1) k - 1, by omega⟩
        rw [htt, Nat.add_sub_cancel] at hix ht
        rw [hk1] at d0
        rw [htt] at d2
        have hd2 : wr.cell? ⟨B, k * 4 + 2, none⟩ = some (.int .i64 ((t : Int) + 1)) := d2
        clear d2
        have HIX := Lib.hid hix
        have HST1 := Lib.hid (fun W => HST.out W (pc A g (f + 1) k) hci)
        have HSI1 := Lib.hid (fun W => HSI.out W (pc A g (f + 1) k) t (pn A (f + 1) k) hci ht hq)
        clear hix hk1 htt
        rw [HIX.out] at HSI1
        have ha0 : (0 : Int) ≤ ((pc A g (f + 1) k : Nat) : Int) := by omega
        generalize ((pc A g (f + 1) k : Nat) : Int) = a1 at *
        generalize ((pn A (f + 1) k : Nat) : Int) = a3 at *
        go_wp2_with fail
        refine (HST1.out _).mono ?_
        rintro e w4 ⟨rfl, hb4⟩
        have hg4 : Below wr.heap.size wr w4 := Below.step (show Below wr.heap.size wr (wr.alloc (.cells #[.int .i64 3, .int .i64 a1, .int .i64 ((t : Int) + 1), .int .i64 a3] 67)) from by go_grown) hb4
        have y0 := (hb4.cell (p := ⟨wr.heap.size, 0, none⟩) (by simp)).trans (show (wr.alloc (.cells #[.int .i64 3, .int .i64 a1, .int .i64 ((t : Int) + 1), .int .i64 a3] 67)).cell? ⟨wr.heap.size, 0, none⟩ = some (.int .i64 3) from by simp [go_sem])
        have y1 := (hb4.cell (p := ⟨wr.heap.size, 1, none⟩) (by simp)).trans (show (wr.alloc (.cells #[.int .i64 3, .int .i64 a1, .int .i64 ((t : Int) + 1), .int .i64 a3] 67)).cell? ⟨wr.heap.size, 1, none⟩ = some (.int .i64 a1) from by simp [go_sem])
        have y2 := (hb4.cell (p := ⟨wr.heap.size, 2, none⟩) (by simp)).trans (show (wr.alloc (.cells #[.int .i64 3, .int .i64 a1, .int .i64 ((t : Int) + 1), .int .i64 a3] 67)).cell? ⟨wr.heap.size, 2, none⟩ = some (.int .i64 ((t : Int) + 1)) from by simp [go_sem])
        have y3 := (hb4.cell (p := ⟨wr.heap.size, 3, none⟩) (by simp)).trans (show (wr.alloc (.cells #[.int .i64 3, .int .i64 a1, .int .i64 ((t : Int) + 1), .int .i64 a3] 67)).cell? ⟨wr.heap.size, 3, none⟩ = some (.int .i64 a3) from by simp [go_sem])
        have hB4 := Below.step hB hg4
        have bR4 := bR.below hg4
        have HP4 := Lib.hid (HPR.out.below hg4)
        clear hb4 hg4 d0 d1 hd2 d3 c0 c1 c2 c3 c4 c5 c6 hlR
        obtain ⟨⟨c0, c1, c2, c3, c4, c5, c6⟩, hlR⟩ := id bR4
        go_wp2_with fail
        refine (HSI1.out _).mono ?_
        rintro e w5 ⟨rfl, hb5⟩
        have hB5 := Below.step hB4 hb5
        have bR5 := bR4.below hb5
        have HP5 := Lib.hid (HP4.out.below hb5)
        clear hb5 y0 y1 y2 y3 c0 c1 c2 c3 c4 c5 c6 hlR
        have hkk : ((k : Int) != (k : Int)) = false := by simp
        go_wp2_with fail
        go_roundw
        case rel => exact ⟨k + 1, by omega, by go_num, hB5, bR5, HP5⟩
        case measure => simp [intOf]; omega
    · obtain rfl : k = T := by omega
      clear hsz
      have hkT1 : decide ((k : Int) < (k : Int)) = false := decide_eq_false (by omega)
      obtain ⟨⟨c0, c1, c2, c3, c4, c5, c6⟩, hlR⟩ := id bR
      go_wp2_with fail
      refine (awake31 _).mono ?_
      rintro e w5 ⟨rfl, hb5⟩
      have hB5 := Below.step hB hb5
      have bR5 := bR.below hb5
      have HP5 := Lib.hid (HPR.out.below hb5)
      clear hb5 c0 c1 c2 c3 c4 c5 c6 hlR
      obtain ⟨⟨c0, c1, c2, c3, c4, c5, c6⟩, hlR⟩ := id bR5
      go_wp2_with fail
      refine (HS.out _).mono ?_
      rintro e w6 ⟨rfl, hb6⟩
      have hB6 := Below.step hB5 hb6
      have HP6 := HP5.out.below hb6
      rw [HTT.out] at HP6
      have HT6 := HT.out B cap w6 HP6
      rw [← HTT.out] at HT6
      have HT6 := Lib.hid HT6
      clear hb6 HP6
      go_wp2_with fail
      refine HT6.out.mono ?_
      rintro e w7 ⟨rfl, hb7⟩
      have hB7 := Below.step hB6 hb7
      have hrr : (res == res) = true := by simp
      go_wp2
      go_ret
      exact ⟨rfl, hB7⟩
theorem in_range (p c f g A : Nat) (x y z : Int) (hg : 1 ≤ g) (h : (0 ≤ x ∧ x < A) ∧ (1 ≤ y ∧ y ≤ g) ∧ (0 ≤ z ∧ z < (f : Int) + 1)) : ∃ i t q : Nat, x = i ∧ y = (t : Int) + 1 ∧ z = q ∧ i < A ∧ t < g ∧ q < f + 1 :=
  ⟨x.toNat, (y - 1).toNat, z.toNat, by omega, by omega, by omega, by omega, by omega, by omega⟩
theorem all (p c f g A : Nat) (n b r x y z : Int) (w : World) (hp : 1 ≤ p ∧ p ≤ 6) (hc : 1 ≤ c ∧ c ≤ 4) (hn : 1 ≤ n ∧ n ≤ 3) (hb : 1 ≤ b ∧ b ≤ 4) (hr : 0 ≤ r ∧ r ≤ 4) (hf : 1 ≤ f ∧ f ≤ 4) (hg : 1 ≤ g ∧ g ≤ 15) (hA : A = p * c) :
    Calls Try.prog 5 #[.agg #[.int .i64 (p : Int), .int .i64 (c : Int), .int .i64 n, .int .i64 b, .int .i64 r, .int .i64 (f : Int), .int .i64 (g : Int)], .int .i64 x, .int .i64 y, .int .i64 z] w fun e w' => e = .returned (.bool true) ∧ Below w.heap.size w w' := by
  have hA4 : A ≤ 24 := by rw [hA]; exact Nat.mul_le_mul hp.2 hc.2
  have hA1 : 1 ≤ A := by rw [hA]; exact Nat.mul_le_mul hp.1 hc.1
  have hT0 : ix A g (f + 1) A 0 0 = 2 * A + A * (g * (f + 1)) := by unfold ix; rw [Nat.add_zero, Nat.add_zero, Nat.mul_assoc]
  have hT1 : ix A g (f + 1) A 0 0 ≤ 2000 := by
    have h2 : A * (g * (f + 1)) ≤ 24 * (15 * 5) := Nat.mul_le_mul hA4 (Nat.mul_le_mul (by omega) (by omega))
    omega
  by_cases h : (0 ≤ x ∧ x < A) ∧ (1 ≤ y ∧ y ≤ g) ∧ (0 ≤ z ∧ z < (f : Int) + 1)
  · obtain ⟨i, t, q, rfl, rfl, rfl, hi, ht, hq⟩ := in_range p c f g A x y z hg.1 h
    have hm : ix A g (f + 1) i t q < ix A g (f + 1) A 0 0 := by rw [hT0]; exact ix_lt A g (f + 1) i t q hi ht hq
    obtain ⟨e0, e1, e2, e3⟩ := place_ix A g (f + 1) i t q ht hq
    refine main p c f g A n b r _ _ _ w hp hc hn hb hr hf hg hA hA4 hA1 ((ix A g (f + 1) i t q : Nat) : Int) (fun W => slot_in p c A i t q f g n b r W hA hA4 hf.2 hg.2 hi ht hq) (fun B cap W hR => ?_)
    have h9 := at_is A g (f + 1) _ B cap (ix A g (f + 1) i t q) (i : Int) ((t : Int) + 1) (q : Int) W hR hT1 (by omega) (fun k hk hh => by
      obtain ⟨h1, h2, h3, h4⟩ := hh
      obtain ⟨b1, b2, b3, b4⟩ := ix_back A g (f + 1) k (by omega) (by omega) (pk_three A k h1)
      have g1 : pc A g (f + 1) k = i := by omega
      have g2 : pg A g (f + 1) k - 1 = t := by omega
      have g3 : pn A (f + 1) k = q := by omega
      rw [g1, g2, g3] at b1
      omega) (fun _ => ⟨e0, by rw [e1], by rw [e2]; rfl, by rw [e3]⟩)
    rw [first_yes _ _ hm] at h9
    exact h9
  · refine main p c f g A n b r _ _ _ w hp hc hn hb hr hf hg hA hA4 hA1 (-1) (fun W => slot_out p c A f g n b r x y z W hA hA4 hf.2 h) (fun B cap W hR => ?_)
    have h9 := at_is A g (f + 1) _ B cap (ix A g (f + 1) A 0 0) x y z W hR hT1 (Nat.le_refl _) (fun k hk hh => by
      obtain ⟨h1, h2, h3, h4⟩ := hh
      obtain ⟨b1, b2, b3, b4⟩ := ix_back A g (f + 1) k (by omega) (by omega) (pk_three A k h1)
      have g1 := pc_lt A g (f + 1) k (by omega) (by omega) (by rw [← hT0]; exact hk)
      exact h ⟨⟨by omega, by omega⟩, ⟨by omega, by omega⟩, ⟨by omega, by omega⟩⟩) (fun hlt => absurd hlt (Nat.lt_irrefl _))
    rw [first_no _ _ (Nat.lt_irrefl _)] at h9
    exact h9
theorem walk (a0_0 : Int) (a0_1 : Int) (a0_2 : Int) (a0_3 : Int) (a0_4 : Int) (a0_5 : Int) (a0_6 : Int) (a1 : Int) (a2 : Int) (a3 : Int) (w : World) (w0_0 : (Lit.int .i64 a0_0).wf = true) (w0_1 : (Lit.int .i64 a0_1).wf = true) (w0_2 : (Lit.int .i64 a0_2).wf = true) (w0_3 : (Lit.int .i64 a0_3).wf = true) (w0_4 : (Lit.int .i64 a0_4).wf = true) (w0_5 : (Lit.int .i64 a0_5).wf = true) (w0_6 : (Lit.int .i64 a0_6).wf = true) (w1 : (Lit.int .i64 a1).wf = true) (w2 : (Lit.int .i64 a2).wf = true) (w3 : (Lit.int .i64 a3).wf = true) :
    Calls Try.prog 5 #[.agg #[.int .i64 a0_0, .int .i64 a0_1, .int .i64 a0_2, .int .i64 a0_3, .int .i64 a0_4, .int .i64 a0_5, .int .i64 a0_6], .int .i64 a1, .int .i64 a2, .int .i64 a3] w fun e w' => e = .returned (.bool true) ∧ Below w.heap.size w w' := by
  by_cases h : (1 ≤ a0_0 ∧ a0_0 ≤ 6) ∧ (1 ≤ a0_1 ∧ a0_1 ≤ 4) ∧ (1 ≤ a0_2 ∧ a0_2 ≤ 3) ∧ (1 ≤ a0_3 ∧ a0_3 ≤ 4) ∧ (0 ≤ a0_4 ∧ a0_4 ≤ 4) ∧ (1 ≤ a0_5 ∧ a0_5 ≤ 4) ∧ (1 ≤ a0_6 ∧ a0_6 ≤ 15)
  · obtain ⟨h0, h1, h2, h3, h4, h5, h6⟩ := h
    obtain ⟨p, rfl⟩ : ∃ p : Nat, a0_0 = p := ⟨a0_0.toNat, by omega⟩
    obtain ⟨c, rfl⟩ : ∃ p : Nat, a0_1 = p := ⟨a0_1.toNat, by omega⟩
    obtain ⟨f, rfl⟩ : ∃ p : Nat, a0_5 = p := ⟨a0_5.toNat, by omega⟩
    obtain ⟨g, rfl⟩ : ∃ p : Nat, a0_6 = p := ⟨a0_6.toNat, by omega⟩
    exact all p c f g (p * c) a0_2 a0_3 a0_4 a1 a2 a3 w (by omega) (by omega) h2 h3 h4 (by omega) (by omega) rfl
  · exact bad _ _ _ _ _ _ _ _ _ _ w h
end Go.Proofs.Ytdjdpbgemdmpiaa.rulesPlaces

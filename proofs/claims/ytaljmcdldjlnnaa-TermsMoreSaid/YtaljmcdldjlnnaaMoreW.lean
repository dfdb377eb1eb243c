/-
  Of TermsMore: MoreW.
-/
import Derived.Test.YtaljmcdldjlnnaaRows
import Derived.WalkKit
import Derived.ProofKit
import Derived.OpenShut
import Derived.ShutString
import Derived.Below
import Derived.Outline
import Derived.WalkLawsBesides
import Derived.WalkSpells
import Derived.Handy
import Derived.Deep.QuietTactic
import Derived.BigQuiet
import Derived.RegionTactic
import Derived.ChangeAlike
import Derived.Lib.Hide
import Derived.Deep.RegionHeld3
import Derived.Deep.DeepCutAuto
import Derived.Test.YtaljmcdldjlnnaaKit
import Derived.Test.YtaljmcdldjlnnaaTerms
import Derived.Test.YtaljmcdldjlnnaaMoreA
import Derived.Test.YtaljmcdldjlnnaaMoreB
import Derived.Test.YtaljmcdldjlnnaaMoreC
import Derived.Test.YtaljmcdldjlnnaaMoreD
namespace Go.Proofs.Ytaljmcdldjlnnaa.termsMore
open Go.ChangeShapes Go.WideShapes Go.ChangeAt Go.RowKit

set_option maxHeartbeats 1600000 in
theorem unpriced (an as_ ap al au bn bs bp bl bu left other mo : Int) (w : World) 
    (hP : ∀ (W : World) (b : Nat), Two W b an as_ ap al au bn bs bp bl bu → Calls Try.prog 10 #[.slice (some ⟨b, 0, none⟩) 2 2] W fun e w' => e = .returned (.bool false) ∧ Below W.heap.size W w') :
    Calls Try.prog 5 #[.agg #[.int .i64 an, .int .i64 as_, .int .i64 ap, .int .i64 al, .int .i64 au], .agg #[.int .i64 bn, .int .i64 bs, .int .i64 bp, .int .i64 bl, .int .i64 bu], .int .i64 left, .int .i64 other, .int .u16 mo] w fun e w' => e = .returned (.bool true) ∧ Below w.heap.size w w' := by
  have HP := Lib.hid hP
  clear hP
  go_enter Try.func5, Try.ntmps5
  go_wp2_with fail
  refine (HP.out _ (w.heap.size + 1 + 1) ⟨by simp, by simp [go_sem], by simp [go_sem], by simp [go_sem], by simp [go_sem], by simp [go_sem], by simp [go_sem], by simp [go_sem], by simp [go_sem], by simp [go_sem], by simp [go_sem]⟩).mono ?_
  rintro e w1 ⟨rfl, hb1⟩
  obtain ⟨hc1, hf1⟩ := bcell hb1
  have hz1 := hb1.size
  have hB1 : Below w.heap.size w w1 := Below.step (by go_grown) hb1
  try simp only [World.size_alloc, World.size_setCell, World.size_drew] at hz1 hc1 hf1
  have hy1_0 : w.heap.size < w1.heap.size := by omega
  have hy1_1 : w.heap.size + 1 < w1.heap.size := by omega
  go_wp2_with fail
  refine (awake11 _).mono ?_
  rintro e w2 ⟨rfl, hb2⟩
  obtain ⟨hc2, hf2⟩ := bcell hb2
  have hz2 := hb2.size
  have hB2 : Below w.heap.size w w2 := Below.step (by go_grown) hb2
  try simp only [World.size_alloc, World.size_setCell, World.size_drew] at hz2 hc2 hf2
  go_wp2
  go_ret
  exact ⟨rfl, by go_grown⟩

set_option maxHeartbeats 1600000 in
theorem seller (an as_ ap al au bn bs bp bl bu left other mo : Int) (w : World) (g1 : 1 ≤ ap) (g2 : ap ≤ 9999) (g3 : 1 ≤ bp) (g4 : bp ≤ 9999) (h : as_ ≠ 0) :
    Calls Try.prog 5 #[.agg #[.int .i64 an, .int .i64 as_, .int .i64 ap, .int .i64 al, .int .i64 au], .agg #[.int .i64 bn, .int .i64 bs, .int .i64 bp, .int .i64 bl, .int .i64 bu], .int .i64 left, .int .i64 other, .int .u16 mo] w fun e w' => e = .returned (.bool true) ∧ Below w.heap.size w w' := by
  have h1 : (as_ != 0) = true := by simpa using h
  go_enter Try.func5, Try.ntmps5
  go_wp2_with fail
  refine (priced_yes (w.heap.size + 1 + 1) an as_ ap al au bn bs bp bl bu _ ⟨by simp, by simp [go_sem], by simp [go_sem], by simp [go_sem], by simp [go_sem], by simp [go_sem], by simp [go_sem], by simp [go_sem], by simp [go_sem], by simp [go_sem], by simp [go_sem]⟩ g1 g2 g3 g4).mono ?_
  rintro e w1 ⟨rfl, hb1⟩
  obtain ⟨hc1, hf1⟩ := bcell hb1
  have hz1 := hb1.size
  have hB1 : Below w.heap.size w w1 := Below.step (by go_grown) hb1
  try simp only [World.size_alloc, World.size_setCell, World.size_drew] at hz1 hc1 hf1
  have hy1_0 : w.heap.size < w1.heap.size := by omega
  have hy1_1 : w.heap.size + 1 < w1.heap.size := by omega
  go_wp2_with fail
  refine (awake11 _).mono ?_
  rintro e w2 ⟨rfl, hb2⟩
  obtain ⟨hc2, hf2⟩ := bcell hb2
  have hz2 := hb2.size
  have hB2 : Below w.heap.size w w2 := Below.step (by go_grown) hb2
  try simp only [World.size_alloc, World.size_setCell, World.size_drew] at hz2 hc2 hf2
  go_wp2
  go_ret
  exact ⟨rfl, by go_grown⟩

set_option maxHeartbeats 1600000 in
theorem beyond (an as_ ap al au bn bs bp bl bu left other mo : Int) (w : World) (g1 : 1 ≤ ap) (g2 : ap ≤ 9999) (g3 : 1 ≤ bp) (g4 : bp ≤ 9999) (h : as_ = 0) (h5 : 0 ≤ mo) (h6 : mo ≤ 65535) (h7 : 9999 < ap + mo) :
    Calls Try.prog 5 #[.agg #[.int .i64 an, .int .i64 as_, .int .i64 ap, .int .i64 al, .int .i64 au], .agg #[.int .i64 bn, .int .i64 bs, .int .i64 bp, .int .i64 bl, .int .i64 bu], .int .i64 left, .int .i64 other, .int .u16 mo] w fun e w' => e = .returned (.bool true) ∧ Below w.heap.size w w' := by
  subst h
  go_enter Try.func5, Try.ntmps5
  go_wp2_with fail
  refine (priced_yes (w.heap.size + 1 + 1) an 0 ap al au bn bs bp bl bu _ ⟨by simp, by simp [go_sem], by simp [go_sem], by simp [go_sem], by simp [go_sem], by simp [go_sem], by simp [go_sem], by simp [go_sem], by simp [go_sem], by simp [go_sem], by simp [go_sem]⟩ g1 g2 g3 g4).mono ?_
  rintro e w1 ⟨rfl, hb1⟩
  obtain ⟨hc1, hf1⟩ := bcell hb1
  have hz1 := hb1.size
  have hB1 : Below w.heap.size w w1 := Below.step (by go_grown) hb1
  try simp only [World.size_alloc, World.size_setCell, World.size_drew] at hz1 hc1 hf1
  have hy1_0 : w.heap.size < w1.heap.size := by omega
  have hy1_1 : w.heap.size + 1 < w1.heap.size := by omega
  go_wp2_with fail
  refine (awake11 _).mono ?_
  rintro e w2 ⟨rfl, hb2⟩
  obtain ⟨hc2, hf2⟩ := bcell hb2
  have hz2 := hb2.size
  have hB2 : Below w.heap.size w w2 := Below.step (by go_grown) hb2
  try simp only [World.size_alloc, World.size_setCell, World.size_drew] at hz2 hc2 hf2
  go_wp2
  go_ret
  exact ⟨rfl, by go_grown⟩

theorem yes_or_no (an as_ ap al bn bs bp bl left other : Int) : No an as_ ap al bn bs bp bl left other ∨ Yes an as_ ap al bn bs bp bl left other (min left other) ((ap + bp) / 2) := by
  unfold No Yes; omega
theorem yes_up (an ap al bn bs bp bl left other m p mo : Int) (h : Yes an 0 ap al bn bs bp bl left other m p) (h0 : 0 ≤ mo) : Yes an 0 (ap + mo) al bn bs bp bl left other m ((ap + mo + bp) / 2) ∧ 0 < m ∧ p ≤ (ap + mo + bp) / 2 := by
  unfold Yes at *; omega
theorem yes_down (an ap al bn bs bp bl left other m p lp : Int) (h : Yes an 0 ap al bn bs bp bl left other m p) (h0 : lp ≤ bp) : Yes an 0 ap al bn bs lp bl left other m ((ap + lp) / 2) ∧ (ap + lp) / 2 ≤ p := by
  unfold Yes at *; omega
/-- Whatever two orders are, Match comes to something. -/
theorem some_match (an as_ ap al au bn bs bp bl bu left other : Int) (g1 : 1 ≤ ap) (g2 : ap ≤ 9999) (g3 : 1 ≤ bp) (g4 : bp ≤ 9999) : ∃ q p : Int, ∀ W, Calls Try.prog 12 #[.agg #[.int .i64 an, .int .i64 as_, .int .i64 ap, .int .i64 al, .int .i64 au], .agg #[.int .i64 bn, .int .i64 bs, .int .i64 bp, .int .i64 bl, .int .i64 bu], .int .i64 left, .int .i64 other] W (MatchPost W q p) := by
  rcases yes_or_no an as_ ap al bn bs bp bl left other with h | h
  · exact ⟨0, 0, fun W => match_no _ _ _ _ _ _ _ _ _ _ _ _ W h⟩
  · exact ⟨_, _, fun W => match_yes _ _ _ _ _ _ _ _ _ _ _ _ _ _ W h g1 g2 g3 g4⟩

theorem walk (a0_0 : Int) (a0_1 : Int) (a0_2 : Int) (a0_3 : Int) (a0_4 : Int) (a1_0 : Int) (a1_1 : Int) (a1_2 : Int) (a1_3 : Int) (a1_4 : Int) (a2 : Int) (a3 : Int) (a4 : Int) (w : World) (w0_0 : (Lit.int .i64 a0_0).wf = true) (w0_1 : (Lit.int .i64 a0_1).wf = true) (w0_2 : (Lit.int .i64 a0_2).wf = true) (w0_3 : (Lit.int .i64 a0_3).wf = true) (w0_4 : (Lit.int .i64 a0_4).wf = true) (w1_0 : (Lit.int .i64 a1_0).wf = true) (w1_1 : (Lit.int .i64 a1_1).wf = true) (w1_2 : (Lit.int .i64 a1_2).wf = true) (w1_3 : (Lit.int .i64 a1_3).wf = true) (w1_4 : (Lit.int .i64 a1_4).wf = true) (w2 : (Lit.int .i64 a2).wf = true) (w3 : (Lit.int .i64 a3).wf = true) (w4 : (Lit.int .u16 a4).wf = true) :
    Calls Try.prog 5 #[.agg #[.int .i64 a0_0, .int .i64 a0_1, .int .i64 a0_2, .int .i64 a0_3, .int .i64 a0_4], .agg #[.int .i64 a1_0, .int .i64 a1_1, .int .i64 a1_2, .int .i64 a1_3, .int .i64 a1_4], .int .i64 a2, .int .i64 a3, .int .u16 a4] w fun e w' => e = .returned (.bool true) ∧ Below w.heap.size w w' := by
  have hm := bounds_u16 w4
  by_cases h1 : a0_2 < 1
  · exact unpriced _ _ _ _ _ _ _ _ _ _ _ _ _ w (fun W b t => priced_a0 b _ _ _ _ _ _ _ _ _ _ W t h1)
  by_cases h2 : 9999 < a0_2
  · exact unpriced _ _ _ _ _ _ _ _ _ _ _ _ _ w (fun W b t => priced_a1 b _ _ _ _ _ _ _ _ _ _ W t (by omega) h2)
  by_cases h3 : a1_2 < 1
  · exact unpriced _ _ _ _ _ _ _ _ _ _ _ _ _ w (fun W b t => priced_b0 b _ _ _ _ _ _ _ _ _ _ W t (by omega) (by omega) h3)
  by_cases h4 : 9999 < a1_2
  · exact unpriced _ _ _ _ _ _ _ _ _ _ _ _ _ w (fun W b t => priced_b1 b _ _ _ _ _ _ _ _ _ _ W t (by omega) (by omega) (by omega) h4)
  by_cases h5 : a0_1 = 0
  · by_cases h6 : 9999 < a0_2 + a4
    · exact beyond _ _ _ _ _ _ _ _ _ _ _ _ _ w (by omega) (by omega) (by omega) (by omega) h5 hm.1 hm.2 h6
    subst h5
    rcases yes_or_no a0_0 0 a0_2 a0_3 a1_0 a1_1 a1_2 a1_3 a2 a3 with h | h
    · obtain ⟨q2, p2, hY⟩ := some_match a0_0 0 (a0_2 + a4) a0_3 a0_4 a1_0 a1_1 a1_2 a1_3 a1_4 a2 a3 (by omega) (by omega) (by omega) (by omega)
      by_cases h7 : a1_2 - a4 ≤ 1
      · obtain ⟨q3, p3, hZ⟩ := some_match a0_0 0 a0_2 a0_3 a0_4 a1_0 a1_1 1 a1_3 a1_4 a2 a3 (by omega) (by omega) (by omega) (by omega)
        exact no_low _ _ _ _ _ _ _ _ _ _ _ _ _ _ _ _ w (by omega) (by omega) (by omega) (by omega) hm.1 (by omega) h7 (fun W => match_no _ _ _ _ _ _ _ _ _ _ _ _ W h) hY hZ
      · obtain ⟨q3, p3, hZ⟩ := some_match a0_0 0 a0_2 a0_3 a0_4 a1_0 a1_1 (a1_2 - a4) a1_3 a1_4 a2 a3 (by omega) (by omega) (by omega) (by omega)
        exact no_high _ _ _ _ _ _ _ _ _ _ _ _ _ _ _ _ w (by omega) (by omega) (by omega) (by omega) hm.1 (by omega) (by omega) (fun W => match_no _ _ _ _ _ _ _ _ _ _ _ _ W h) hY hZ
    · obtain ⟨u1, u2, u3⟩ := yes_up _ _ _ _ _ _ _ _ _ _ _ a4 h hm.1
      by_cases h7 : a1_2 - a4 ≤ 1
      · obtain ⟨d1, d2⟩ := yes_down _ _ _ _ _ _ _ _ _ _ _ 1 h (by omega)
        exact yes_low _ _ _ _ _ _ _ _ _ _ _ _ _ _ _ _ w (by omega) (by omega) (by omega) (by omega) hm.1 (by omega) h7 u2 u3 d2 (fun W => match_yes _ _ _ _ _ _ _ _ _ _ _ _ _ _ W h (by omega) (by omega) (by omega) (by omega)) (fun W => match_yes _ _ _ _ _ _ _ _ _ _ _ _ _ _ W u1 (by omega) (by omega) (by omega) (by omega)) (fun W => match_yes _ _ _ _ _ _ _ _ _ _ _ _ _ _ W d1 (by omega) (by omega) (by omega) (by omega))
      · obtain ⟨d1, d2⟩ := yes_down _ _ _ _ _ _ _ _ _ _ _ (a1_2 - a4) h (by omega)
        exact yes_high _ _ _ _ _ _ _ _ _ _ _ _ _ _ _ _ w (by omega) (by omega) (by omega) (by omega) hm.1 (by omega) (by omega) u2 u3 d2 (fun W => match_yes _ _ _ _ _ _ _ _ _ _ _ _ _ _ W h (by omega) (by omega) (by omega) (by omega)) (fun W => match_yes _ _ _ _ _ _ _ _ _ _ _ _ _ _ W u1 (by omega) (by omega) (by omega) (by omega)) (fun W => match_yes _ _ _ _ _ _ _ _ _ _ _ _ _ _ W d1 (by omega) (by omega) (by omega) (by omega))
  · exact seller _ _ _ _ _ _ _ _ _ _ _ _ _ w (by omega) (by omega) (by omega) (by omega) h5
end Go.Proofs.Ytaljmcdldjlnnaa.termsMore

/-
  The walk of TermsMatch.
-/
import Derived.Test.YtaljmcdldjlnnaaRows
import Derived.WalkKit
import Derived.ProofKit
import Derived.OpenShut
import Derived.ShutString
import Derived.Below
import Derived.Outline
import Derived.WalkLawsBesides
import Derived.WalkSpells
import Derived.Handy
import Derived.Deep.QuietTactic
import Derived.BigQuiet
import Derived.RegionTactic
import Derived.ChangeAlike
import Derived.Lib.Hide
import Derived.Test.YtaljmcdldjlnnaaKit
import Derived.Test.YtaljmcdldjlnnaaTerms
import Derived.Test.YtaljmcdldjlnnaaRMatch
namespace Go.Proofs.Ytaljmcdldjlnnaa.termsMatch
open Go.ChangeShapes Go.WideShapes Go.ChangeAt Go.RowKit

set_option maxHeartbeats 1600000 in
set_option maxRecDepth 100000 in
theorem side0 (an as_ ap al au bn bs bp bl bu left other  q p : Int) (w : World) (g1 : 1 ≤ ap) (g2 : ap ≤ 9999) (g3 : 1 ≤ bp) (g4 : bp ≤ 9999) 
    (hX : ∀ W, Calls Try.prog 12 #[.agg #[.int .i64 an, .int .i64 as_, .int .i64 ap, .int .i64 al, .int .i64 au], .agg #[.int .i64 bn, .int .i64 bs, .int .i64 bp, .int .i64 bl, .int .i64 bu], .int .i64 left, .int .i64 other] W (MatchPost W q p))
    (hY : ∀ W, Calls Try.prog 13 #[.agg #[.int .i64 an, .int .i64 as_, .int .i64 ap, .int .i64 al, .int .i64 au], .agg #[.int .i64 bn, .int .i64 bs, .int .i64 bp, .int .i64 bl, .int .i64 bu], .int .i64 left, .int .i64 other] W (RefPost W q p)) :
    Calls Try.prog 3 #[.agg #[.int .i64 an, .int .i64 as_, .int .i64 ap, .int .i64 al, .int .i64 au], .agg #[.int .i64 bn, .int .i64 bs, .int .i64 bp, .int .i64 bl, .int .i64 bu], .int .i64 left, .int .i64 other, .int .i64 0] w fun e w' => e = .returned (.bool true) ∧ Below w.heap.size w w' := by
  have HX := Lib.hid hX
  have HY := Lib.hid hY
  clear hX hY
  have hqq : (q == q) = true := by simp
  have hpp : (p == p) = true := by simp
  go_enter Try.func3, Try.ntmps3
  go_wp2_with fail
  refine (priced_yes (w.heap.size + 1 + 1) an as_ ap al au bn bs bp bl bu _ ⟨by simp, by simp [go_sem], by simp [go_sem], by simp [go_sem], by simp [go_sem], by simp [go_sem], by simp [go_sem], by simp [go_sem], by simp [go_sem], by simp [go_sem], by simp [go_sem]⟩ g1 g2 g3 g4).mono ?_
  rintro e w1 ⟨rfl, hb1⟩
  obtain ⟨hc1, hf1⟩ := bcell hb1
  have hz1 := hb1.size
  have hB1 : Below w.heap.size w w1 := Below.step (by go_grown) hb1
  try simp only [World.size_alloc, World.size_setCell, World.size_drew] at hz1 hc1 hf1
  have hy1_0 : w.heap.size < w1.heap.size := by omega
  have hy1_1 : w.heap.size + 1 < w1.heap.size := by omega
  go_wp2_with fail
  refine (HX.out _).mono ?_
  rintro e w2 ⟨rfl, hb2⟩
  obtain ⟨hc2, hf2⟩ := bcell hb2
  have hz2 := hb2.size
  have hB2 : Below w.heap.size w w2 := Below.step (by go_grown) hb2
  try simp only [World.size_alloc, World.size_setCell, World.size_drew] at hz2 hc2 hf2
  have hy2_0 : w.heap.size < w2.heap.size := by omega
  have hy2_1 : w.heap.size + 1 < w2.heap.size := by omega
  go_wp2_with fail
  refine (HY.out _).mono ?_
  rintro e w3 ⟨rfl, hb3⟩
  obtain ⟨hc3, hf3⟩ := bcell hb3
  have hz3 := hb3.size
  have hB3 : Below w.heap.size w w3 := Below.step (by go_grown) hb3
  try simp only [World.size_alloc, World.size_setCell, World.size_drew] at hz3 hc3 hf3
  have hy3_0 : w.heap.size < w3.heap.size := by omega
  have hy3_1 : w.heap.size + 1 < w3.heap.size := by omega
  have hy3_2 : w2.heap.size < w3.heap.size := by omega
  go_wp2_with fail

  refine (awake11 _).mono ?_
  rintro e w4 ⟨rfl, hb4⟩
  obtain ⟨hc4, hf4⟩ := bcell hb4
  have hz4 := hb4.size
  have hB4 : Below w.heap.size w w4 := Below.step (by go_grown) hb4
  try simp only [World.size_alloc, World.size_setCell, World.size_drew] at hz4 hc4 hf4
  have hy4_0 : w.heap.size < w4.heap.size := by omega
  have hy4_1 : w.heap.size + 1 < w4.heap.size := by omega
  have hy4_2 : w2.heap.size < w4.heap.size := by omega
  have hy4_3 : w3.heap.size < w4.heap.size := by omega
  have hx4_0 : w2.heap.size < w3.heap.size + 1 := by omega
  go_wp2

  all_goals go_ret
  all_goals exact ⟨rfl, by go_grown⟩

set_option maxHeartbeats 1600000 in
set_option maxRecDepth 100000 in
theorem side1 (an as_ ap al au bn bs bp bl bu left other  q p : Int) (w : World) (g1 : 1 ≤ ap) (g2 : ap ≤ 9999) (g3 : 1 ≤ bp) (g4 : bp ≤ 9999) 
    (hX : ∀ W, Calls Try.prog 12 #[.agg #[.int .i64 an, .int .i64 as_, .int .i64 ap, .int .i64 al, .int .i64 au], .agg #[.int .i64 bn, .int .i64 bs, .int .i64 bp, .int .i64 bl, .int .i64 bu], .int .i64 left, .int .i64 other] W (MatchPost W q p))
    (hY : ∀ W, Calls Try.prog 13 #[.agg #[.int .i64 an, .int .i64 as_, .int .i64 ap, .int .i64 al, .int .i64 au], .agg #[.int .i64 bn, .int .i64 bs, .int .i64 bp, .int .i64 bl, .int .i64 bu], .int .i64 left, .int .i64 other] W (RefPost W q p)) :
    Calls Try.prog 3 #[.agg #[.int .i64 an, .int .i64 as_, .int .i64 ap, .int .i64 al, .int .i64 au], .agg #[.int .i64 bn, .int .i64 bs, .int .i64 bp, .int .i64 bl, .int .i64 bu], .int .i64 left, .int .i64 other, .int .i64 1] w fun e w' => e = .returned (.bool true) ∧ Below w.heap.size w w' := by
  have HX := Lib.hid hX
  have HY := Lib.hid hY
  clear hX hY
  have hqq : (q == q) = true := by simp
  have hpp : (p == p) = true := by simp
  go_enter Try.func3, Try.ntmps3
  go_wp2_with fail
  refine (priced_yes (w.heap.size + 1 + 1) an as_ ap al au bn bs bp bl bu _ ⟨by simp, by simp [go_sem], by simp [go_sem], by simp [go_sem], by simp [go_sem], by simp [go_sem], by simp [go_sem], by simp [go_sem], by simp [go_sem], by simp [go_sem], by simp [go_sem]⟩ g1 g2 g3 g4).mono ?_
  rintro e w1 ⟨rfl, hb1⟩
  obtain ⟨hc1, hf1⟩ := bcell hb1
  have hz1 := hb1.size
  have hB1 : Below w.heap.size w w1 := Below.step (by go_grown) hb1
  try simp only [World.size_alloc, World.size_setCell, World.size_drew] at hz1 hc1 hf1
  have hy1_0 : w.heap.size < w1.heap.size := by omega
  have hy1_1 : w.heap.size + 1 < w1.heap.size := by omega
  go_wp2_with fail
  refine (HX.out _).mono ?_
  rintro e w2 ⟨rfl, hb2⟩
  obtain ⟨hc2, hf2⟩ := bcell hb2
  have hz2 := hb2.size
  have hB2 : Below w.heap.size w w2 := Below.step (by go_grown) hb2
  try simp only [World.size_alloc, World.size_setCell, World.size_drew] at hz2 hc2 hf2
  have hy2_0 : w.heap.size < w2.heap.size := by omega
  have hy2_1 : w.heap.size + 1 < w2.heap.size := by omega
  go_wp2_with fail
  refine (HY.out _).mono ?_
  rintro e w3 ⟨rfl, hb3⟩
  obtain ⟨hc3, hf3⟩ := bcell hb3
  have hz3 := hb3.size
  have hB3 : Below w.heap.size w w3 := Below.step (by go_grown) hb3
  try simp only [World.size_alloc, World.size_setCell, World.size_drew] at hz3 hc3 hf3
  have hy3_0 : w.heap.size < w3.heap.size := by omega
  have hy3_1 : w.heap.size + 1 < w3.heap.size := by omega
  have hy3_2 : w2.heap.size < w3.heap.size := by omega
  go_wp2_with fail

  refine (awake11 _).mono ?_
  rintro e w4 ⟨rfl, hb4⟩
  obtain ⟨hc4, hf4⟩ := bcell hb4
  have hz4 := hb4.size
  have hB4 : Below w.heap.size w w4 := Below.step (by go_grown) hb4
  try simp only [World.size_alloc, World.size_setCell, World.size_drew] at hz4 hc4 hf4
  have hy4_0 : w.heap.size < w4.heap.size := by omega
  have hy4_1 : w.heap.size + 1 < w4.heap.size := by omega
  have hy4_2 : w2.heap.size < w4.heap.size := by omega
  have hy4_3 : w3.heap.size < w4.heap.size := by omega
  have hx4_0 : w2.heap.size < w3.heap.size + 1 := by omega
  go_wp2

  all_goals go_ret
  all_goals exact ⟨rfl, by go_grown⟩

set_option maxHeartbeats 1600000 in
set_option maxRecDepth 100000 in
theorem sideother (an as_ ap al au bn bs bp bl bu left other sd q p : Int) (w : World) (g1 : 1 ≤ ap) (g2 : ap ≤ 9999) (g3 : 1 ≤ bp) (g4 : bp ≤ 9999) (hs0 : sd ≠ 0) (hs1 : sd ≠ 1)
    (hX : ∀ W, Calls Try.prog 12 #[.agg #[.int .i64 an, .int .i64 as_, .int .i64 ap, .int .i64 al, .int .i64 au], .agg #[.int .i64 bn, .int .i64 bs, .int .i64 bp, .int .i64 bl, .int .i64 bu], .int .i64 left, .int .i64 other] W (MatchPost W q p))
    (hY : ∀ W, Calls Try.prog 13 #[.agg #[.int .i64 an, .int .i64 as_, .int .i64 ap, .int .i64 al, .int .i64 au], .agg #[.int .i64 bn, .int .i64 bs, .int .i64 bp, .int .i64 bl, .int .i64 bu], .int .i64 left, .int .i64 other] W (RefPost W q p)) :
    Calls Try.prog 3 #[.agg #[.int .i64 an, .int .i64 as_, .int .i64 ap, .int .i64 al, .int .i64 au], .agg #[.int .i64 bn, .int .i64 bs, .int .i64 bp, .int .i64 bl, .int .i64 bu], .int .i64 left, .int .i64 other, .int .i64 sd] w fun e w' => e = .returned (.bool true) ∧ Below w.heap.size w w' := by
  have hs2 : (sd == 0) = false := by simpa using hs0
  have hs3 : (sd == 1) = false := by simpa using hs1
  have HX := Lib.hid hX
  have HY := Lib.hid hY
  clear hX hY
  have hqq : (q == q) = true := by simp
  have hpp : (p == p) = true := by simp
  go_enter Try.func3, Try.ntmps3
  go_wp2_with fail
  refine (priced_yes (w.heap.size + 1 + 1) an as_ ap al au bn bs bp bl bu _ ⟨by simp, by simp [go_sem], by simp [go_sem], by simp [go_sem], by simp [go_sem], by simp [go_sem], by simp [go_sem], by simp [go_sem], by simp [go_sem], by simp [go_sem], by simp [go_sem]⟩ g1 g2 g3 g4).mono ?_
  rintro e w1 ⟨rfl, hb1⟩
  obtain ⟨hc1, hf1⟩ := bcell hb1
  have hz1 := hb1.size
  have hB1 : Below w.heap.size w w1 := Below.step (by go_grown) hb1
  try simp only [World.size_alloc, World.size_setCell, World.size_drew] at hz1 hc1 hf1
  have hy1_0 : w.heap.size < w1.heap.size := by omega
  have hy1_1 : w.heap.size + 1 < w1.heap.size := by omega
  go_wp2_with fail
  refine (HX.out _).mono ?_
  rintro e w2 ⟨rfl, hb2⟩
  obtain ⟨hc2, hf2⟩ := bcell hb2
  have hz2 := hb2.size
  have hB2 : Below w.heap.size w w2 := Below.step (by go_grown) hb2
  try simp only [World.size_alloc, World.size_setCell, World.size_drew] at hz2 hc2 hf2
  have hy2_0 : w.heap.size < w2.heap.size := by omega
  have hy2_1 : w.heap.size + 1 < w2.heap.size := by omega
  go_wp2_with fail
  refine (HY.out _).mono ?_
  rintro e w3 ⟨rfl, hb3⟩
  obtain ⟨hc3, hf3⟩ := bcell hb3
  have hz3 := hb3.size
  have hB3 : Below w.heap.size w w3 := Below.step (by go_grown) hb3
  try simp only [World.size_alloc, World.size_setCell, World.size_drew] at hz3 hc3 hf3
  have hy3_0 : w.heap.size < w3.heap.size := by omega
  have hy3_1 : w.heap.size + 1 < w3.heap.size := by omega
  have hy3_2 : w2.heap.size < w3.heap.size := by omega
  go_wp2_with fail

  refine (awake11 _).mono ?_
  rintro e w4 ⟨rfl, hb4⟩
  obtain ⟨hc4, hf4⟩ := bcell hb4
  have hz4 := hb4.size
  have hB4 : Below w.heap.size w w4 := Below.step (by go_grown) hb4
  try simp only [World.size_alloc, World.size_setCell, World.size_drew] at hz4 hc4 hf4
  have hy4_0 : w.heap.size < w4.heap.size := by omega
  have hy4_1 : w.heap.size + 1 < w4.heap.size := by omega
  have hy4_2 : w2.heap.size < w4.heap.size := by omega
  go_wp2

  all_goals go_ret
  all_goals exact ⟨rfl, by go_grown⟩

set_option maxHeartbeats 1600000 in
theorem unpriced (an as_ ap al au bn bs bp bl bu left other sd : Int) (w : World)
    (hP : ∀ (W : World) (b : Nat), Two W b an as_ ap al au bn bs bp bl bu → Calls Try.prog 10 #[.slice (some ⟨b, 0, none⟩) 2 2] W fun e w' => e = .returned (.bool false) ∧ Below W.heap.size W w') :
    Calls Try.prog 3 #[.agg #[.int .i64 an, .int .i64 as_, .int .i64 ap, .int .i64 al, .int .i64 au], .agg #[.int .i64 bn, .int .i64 bs, .int .i64 bp, .int .i64 bl, .int .i64 bu], .int .i64 left, .int .i64 other, .int .i64 sd] w fun e w' => e = .returned (.bool true) ∧ Below w.heap.size w w' := by
  have HP := Lib.hid hP
  clear hP
  go_enter Try.func3, Try.ntmps3
  go_wp2_with fail
  refine (HP.out _ (w.heap.size + 1 + 1) ⟨by simp, by simp [go_sem], by simp [go_sem], by simp [go_sem], by simp [go_sem], by simp [go_sem], by simp [go_sem], by simp [go_sem], by simp [go_sem], by simp [go_sem], by simp [go_sem]⟩).mono ?_
  rintro e w1 ⟨rfl, hb1⟩
  obtain ⟨hc1, hf1⟩ := bcell hb1
  have hz1 := hb1.size
  have hB1 : Below w.heap.size w w1 := Below.step (by go_grown) hb1
  try simp only [World.size_alloc, World.size_setCell, World.size_drew] at hz1 hc1 hf1
  have hy1_0 : w.heap.size < w1.heap.size := by omega
  have hy1_1 : w.heap.size + 1 < w1.heap.size := by omega
  go_wp2_with fail
  refine (awake11 _).mono ?_
  rintro e w2 ⟨rfl, hb2⟩
  obtain ⟨hc2, hf2⟩ := bcell hb2
  have hz2 := hb2.size
  have hB2 : Below w.heap.size w w2 := Below.step (by go_grown) hb2
  try simp only [World.size_alloc, World.size_setCell, World.size_drew] at hz2 hc2 hf2
  go_wp2
  go_ret
  exact ⟨rfl, by go_grown⟩

theorem yes_or_no (an as_ ap al bn bs bp bl left other : Int) : No an as_ ap al bn bs bp bl left other ∨ Yes an as_ ap al bn bs bp bl left other (min left other) ((ap + bp) / 2) := by
  unfold No Yes; omega

theorem sided (an as_ ap al au bn bs bp bl bu left other sd q p : Int) (w : World) (g1 : 1 ≤ ap) (g2 : ap ≤ 9999) (g3 : 1 ≤ bp) (g4 : bp ≤ 9999)
    (hX : ∀ W, Calls Try.prog 12 #[.agg #[.int .i64 an, .int .i64 as_, .int .i64 ap, .int .i64 al, .int .i64 au], .agg #[.int .i64 bn, .int .i64 bs, .int .i64 bp, .int .i64 bl, .int .i64 bu], .int .i64 left, .int .i64 other] W (MatchPost W q p))
    (hY : ∀ W, Calls Try.prog 13 #[.agg #[.int .i64 an, .int .i64 as_, .int .i64 ap, .int .i64 al, .int .i64 au], .agg #[.int .i64 bn, .int .i64 bs, .int .i64 bp, .int .i64 bl, .int .i64 bu], .int .i64 left, .int .i64 other] W (RefPost W q p)) :
    Calls Try.prog 3 #[.agg #[.int .i64 an, .int .i64 as_, .int .i64 ap, .int .i64 al, .int .i64 au], .agg #[.int .i64 bn, .int .i64 bs, .int .i64 bp, .int .i64 bl, .int .i64 bu], .int .i64 left, .int .i64 other, .int .i64 sd] w fun e w' => e = .returned (.bool true) ∧ Below w.heap.size w w' := by
  by_cases h0 : sd = 0
  · subst h0
    exact side0 _ _ _ _ _ _ _ _ _ _ _ _ _ _ w g1 g2 g3 g4 hX hY
  by_cases h1 : sd = 1
  · subst h1
    exact side1 _ _ _ _ _ _ _ _ _ _ _ _ _ _ w g1 g2 g3 g4 hX hY
  exact sideother _ _ _ _ _ _ _ _ _ _ _ _ _ _ _ w g1 g2 g3 g4 h0 h1 hX hY

theorem walk (a0_0 : Int) (a0_1 : Int) (a0_2 : Int) (a0_3 : Int) (a0_4 : Int) (a1_0 : Int) (a1_1 : Int) (a1_2 : Int) (a1_3 : Int) (a1_4 : Int) (a2 : Int) (a3 : Int) (a4 : Int) (w : World) (w0_0 : (Lit.int .i64 a0_0).wf = true) (w0_1 : (Lit.int .i64 a0_1).wf = true) (w0_2 : (Lit.int .i64 a0_2).wf = true) (w0_3 : (Lit.int .i64 a0_3).wf = true) (w0_4 : (Lit.int .i64 a0_4).wf = true) (w1_0 : (Lit.int .i64 a1_0).wf = true) (w1_1 : (Lit.int .i64 a1_1).wf = true) (w1_2 : (Lit.int .i64 a1_2).wf = true) (w1_3 : (Lit.int .i64 a1_3).wf = true) (w1_4 : (Lit.int .i64 a1_4).wf = true) (w2 : (Lit.int .i64 a2).wf = true) (w3 : (Lit.int .i64 a3).wf = true) (w4 : (Lit.int .i64 a4).wf = true) :
    Calls Try.prog 3 #[.agg #[.int .i64 a0_0, .int .i64 a0_1, .int .i64 a0_2, .int .i64 a0_3, .int .i64 a0_4], .agg #[.int .i64 a1_0, .int .i64 a1_1, .int .i64 a1_2, .int .i64 a1_3, .int .i64 a1_4], .int .i64 a2, .int .i64 a3, .int .i64 a4] w fun e w' => e = .returned (.bool true) ∧ Below w.heap.size w w' := by
  by_cases h1 : a0_2 < 1
  · exact unpriced _ _ _ _ _ _ _ _ _ _ _ _ _ w (fun W b t => priced_a0 b _ _ _ _ _ _ _ _ _ _ W t h1)
  by_cases h2 : 9999 < a0_2
  · exact unpriced _ _ _ _ _ _ _ _ _ _ _ _ _ w (fun W b t => priced_a1 b _ _ _ _ _ _ _ _ _ _ W t (by omega) h2)
  by_cases h3 : a1_2 < 1
  · exact unpriced _ _ _ _ _ _ _ _ _ _ _ _ _ w (fun W b t => priced_b0 b _ _ _ _ _ _ _ _ _ _ W t (by omega) (by omega) h3)
  by_cases h4 : 9999 < a1_2
  · exact unpriced _ _ _ _ _ _ _ _ _ _ _ _ _ w (fun W b t => priced_b1 b _ _ _ _ _ _ _ _ _ _ W t (by omega) (by omega) (by omega) h4)
  rcases yes_or_no a0_0 a0_1 a0_2 a0_3 a1_0 a1_1 a1_2 a1_3 a2 a3 with h | h
  · exact sided _ _ _ _ _ _ _ _ _ _ _ _ _ 0 0 w (by omega) (by omega) (by omega) (by omega) (fun W => match_no _ _ _ _ _ _ _ _ _ _ _ _ W h) (fun W => rmatch_no _ _ _ _ _ _ _ _ _ _ _ _ W h)
  · exact sided _ _ _ _ _ _ _ _ _ _ _ _ _ _ _ w (by omega) (by omega) (by omega) (by omega) (fun W => match_yes _ _ _ _ _ _ _ _ _ _ _ _ _ _ W h (by omega) (by omega) (by omega) (by omega)) (fun W => rmatch_yes _ _ _ _ _ _ _ _ _ _ _ _ _ _ W h (by omega) (by omega) (by omega) (by omega))
end Go.Proofs.Ytaljmcdldjlnnaa.termsMatch

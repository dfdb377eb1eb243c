/-
  Of layer 7: what 'priced' answers of two terms; the example.
-/
import Derived.Test.YtaljmcdldjlnnaaRows
import Derived.WalkKit
import Derived.ProofKit
import Derived.OpenShut
import Derived.ShutString
import Derived.Below
import Derived.Outline
import Derived.WalkLawsBesides
import Derived.WalkSpells
import Derived.Handy
import Derived.Deep.QuietTactic
import Derived.BigQuiet
import Derived.RegionTactic
import Derived.ChangeAlike
import Derived.Lib.Hide
import Derived.Test.YtaljmcdldjlnnaaKit
import Derived.Test.YtaljmcdldjlnnaaMatch
namespace Go.Proofs.Ytaljmcdldjlnnaa
open Go.ChangeShapes Go.WideShapes Go.ChangeAt Go.RowKit

/-- Two terms in one block, as they are handed to 'priced'. -/
structure Two (w : World) (b : Nat) (an as_ ap al au bn bs bp bl bu : Int) : Prop where
  lt : b < w.heap.size
  c0 : w.cell? ⟨b, 0, none⟩ = some (.int .i64 an)
  c1 : w.cell? ⟨b, 1, none⟩ = some (.int .i64 as_)
  c2 : w.cell? ⟨b, 2, none⟩ = some (.int .i64 ap)
  c3 : w.cell? ⟨b, 3, none⟩ = some (.int .i64 al)
  c4 : w.cell? ⟨b, 4, none⟩ = some (.int .i64 au)
  c5 : w.cell? ⟨b, 5, none⟩ = some (.int .i64 bn)
  c6 : w.cell? ⟨b, 6, none⟩ = some (.int .i64 bs)
  c7 : w.cell? ⟨b, 7, none⟩ = some (.int .i64 bp)
  c8 : w.cell? ⟨b, 8, none⟩ = some (.int .i64 bl)
  c9 : w.cell? ⟨b, 9, none⟩ = some (.int .i64 bu)

set_option maxHeartbeats 400000 in
theorem priced_yes (b : Nat) (an as_ ap al au bn bs bp bl bu : Int) (w : World) (hw : Two w b an as_ ap al au bn bs bp bl bu) (h1 : 1 ≤ ap) (h2 : ap ≤ 9999) (h3 : 1 ≤ bp) (h4 : bp ≤ 9999) :
    Calls Try.prog 10 #[.slice (some ⟨b, 0, none⟩) 2 2] w fun e w' => e = .returned (.bool true) ∧ Below w.heap.size w w' := by
  obtain ⟨hlt, c0, c1, c2, c3, c4, c5, c6, c7, c8, c9⟩ := hw
  go_enter Try.func10, Try.ntmps10
  go_wp2
  go_rounds 3
  all_goals go_ret
  all_goals exact ⟨rfl, by go_grown⟩

set_option maxHeartbeats 400000 in
theorem priced_a0 (b : Nat) (an as_ ap al au bn bs bp bl bu : Int) (w : World) (hw : Two w b an as_ ap al au bn bs bp bl bu) (h1 : ap < 1) :
    Calls Try.prog 10 #[.slice (some ⟨b, 0, none⟩) 2 2] w fun e w' => e = .returned (.bool false) ∧ Below w.heap.size w w' := by
  obtain ⟨hlt, c0, c1, c2, c3, c4, c5, c6, c7, c8, c9⟩ := hw
  go_enter Try.func10, Try.ntmps10
  go_wp2
  go_rounds 3
  all_goals go_ret
  all_goals exact ⟨rfl, by go_grown⟩

set_option maxHeartbeats 400000 in
theorem priced_a1 (b : Nat) (an as_ ap al au bn bs bp bl bu : Int) (w : World) (hw : Two w b an as_ ap al au bn bs bp bl bu) (h1 : 1 ≤ ap) (h2 : 9999 < ap) :
    Calls Try.prog 10 #[.slice (some ⟨b, 0, none⟩) 2 2] w fun e w' => e = .returned (.bool false) ∧ Below w.heap.size w w' := by
  obtain ⟨hlt, c0, c1, c2, c3, c4, c5, c6, c7, c8, c9⟩ := hw
  go_enter Try.func10, Try.ntmps10
  go_wp2
  go_rounds 3
  all_goals go_ret
  all_goals exact ⟨rfl, by go_grown⟩

set_option maxHeartbeats 400000 in
theorem priced_b0 (b : Nat) (an as_ ap al au bn bs bp bl bu : Int) (w : World) (hw : Two w b an as_ ap al au bn bs bp bl bu) (h1 : 1 ≤ ap) (h2 : ap ≤ 9999) (h3 : bp < 1) :
    Calls Try.prog 10 #[.slice (some ⟨b, 0, none⟩) 2 2] w fun e w' => e = .returned (.bool false) ∧ Below w.heap.size w w' := by
  obtain ⟨hlt, c0, c1, c2, c3, c4, c5, c6, c7, c8, c9⟩ := hw
  go_enter Try.func10, Try.ntmps10
  go_wp2
  go_rounds 3
  all_goals go_ret
  all_goals exact ⟨rfl, by go_grown⟩

set_option maxHeartbeats 400000 in
theorem priced_b1 (b : Nat) (an as_ ap al au bn bs bp bl bu : Int) (w : World) (hw : Two w b an as_ ap al au bn bs bp bl bu) (h1 : 1 ≤ ap) (h2 : ap ≤ 9999) (h3 : 1 ≤ bp) (h4 : 9999 < bp) :
    Calls Try.prog 10 #[.slice (some ⟨b, 0, none⟩) 2 2] w fun e w' => e = .returned (.bool false) ∧ Below w.heap.size w w' := by
  obtain ⟨hlt, c0, c1, c2, c3, c4, c5, c6, c7, c8, c9⟩ := hw
  go_enter Try.func10, Try.ntmps10
  go_wp2
  go_rounds 3
  all_goals go_ret
  all_goals exact ⟨rfl, by go_grown⟩

/-- Two orders that match, and what they come to. -/
def Yes (an as_ ap al bn bs bp bl left other m p : Int) : Prop :=
  ((as_ = 1 ∧ bs = 0 ∧ ap ≤ bp) ∨ (as_ = 0 ∧ bs = 1 ∧ bp ≤ ap)) ∧ an = bn ∧ m = min left other ∧ 1 ≤ m ∧ al ≤ m ∧ bl ≤ m ∧ p = (ap + bp) / 2
/-- Two orders that don't. -/
def No (an as_ ap al bn bs bp bl left other : Int) : Prop :=
  ¬ (((as_ = 1 ∧ bs = 0 ∧ ap ≤ bp) ∨ (as_ = 0 ∧ bs = 1 ∧ bp ≤ ap)) ∧ an = bn ∧ 1 ≤ min left other ∧ al ≤ min left other ∧ bl ≤ min left other)

theorem match_yes (an as_ ap al au bn bs bp bl bu left other m p : Int) (w : World) (h : Yes an as_ ap al bn bs bp bl left other m p) (g1 : 1 ≤ ap) (g2 : ap ≤ 9999) (g3 : 1 ≤ bp) (g4 : bp ≤ 9999) :
    Calls Try.prog 12 #[.agg #[.int .i64 an, .int .i64 as_, .int .i64 ap, .int .i64 al, .int .i64 au], .agg #[.int .i64 bn, .int .i64 bs, .int .i64 bp, .int .i64 bl, .int .i64 bu], .int .i64 left, .int .i64 other] w (MatchPost w m p) := by
  obtain ⟨hs, rfl, rfl, h1, h2, h3, rfl⟩ := h
  rcases hs with ⟨rfl, rfl, hp⟩ | ⟨rfl, rfl, hp⟩
  · rw [Int.add_comm ap bp]
    by_cases hm : left ≤ other
    · rw [Int.min_eq_left hm] at h1 h2 h3 ⊢
      exact match_Al3 _ _ _ _ _ _ _ _ _ w hp hm h1 h2 h3 g1 g2 g3 g4
    · rw [Int.min_eq_right (by omega)] at h1 h2 h3 ⊢
      exact match_Ao3 _ _ _ _ _ _ _ _ _ w hp (by omega) h1 h2 h3 g1 g2 g3 g4
  · by_cases hm : left ≤ other
    · rw [Int.min_eq_left hm] at h1 h2 h3 ⊢
      exact match_Bl3 _ _ _ _ _ _ _ _ _ w hp hm h1 h2 h3 g1 g2 g3 g4
    · rw [Int.min_eq_right (by omega)] at h1 h2 h3 ⊢
      exact match_Bo3 _ _ _ _ _ _ _ _ _ w hp (by omega) h1 h2 h3 g1 g2 g3 g4

theorem match_no (an as_ ap al au bn bs bp bl bu left other : Int) (w : World) (h : No an as_ ap al bn bs bp bl left other) :
    Calls Try.prog 12 #[.agg #[.int .i64 an, .int .i64 as_, .int .i64 ap, .int .i64 al, .int .i64 au], .agg #[.int .i64 bn, .int .i64 bs, .int .i64 bp, .int .i64 bl, .int .i64 bu], .int .i64 left, .int .i64 other] w (MatchPost w 0 0) := by
  unfold No at h
  by_cases ha : as_ = 1
  · subst ha
    by_cases hb : bs = 0
    · subst hb
      by_cases hn : bn = an
      · subst hn
        by_cases hp : ap ≤ bp
        · by_cases hm : left ≤ other
          · rw [Int.min_eq_left hm] at h
            by_cases h3 : left < 1
            · exact match_Al0 _ _ _ _ _ _ _ _ _ w hp hm h3
            · by_cases h4 : left < al
              · exact match_Al1 _ _ _ _ _ _ _ _ _ w hp hm (by omega) h4
              · exact match_Al2 _ _ _ _ _ _ _ _ _ w hp hm (by omega) (by omega) (by omega)
          · rw [Int.min_eq_right (by omega)] at h
            by_cases h3 : other < 1
            · exact match_Ao0 _ _ _ _ _ _ _ _ _ w hp (by omega) h3
            · by_cases h4 : other < al
              · exact match_Ao1 _ _ _ _ _ _ _ _ _ w hp (by omega) (by omega) h4
              · exact match_Ao2 _ _ _ _ _ _ _ _ _ w hp (by omega) (by omega) (by omega) (by omega)
        · exact match_A3 _ _ _ _ _ _ _ _ _ w (by omega)
      · exact match_A2 _ _ _ _ _ _ _ _ _ _ w hn
    · exact match_A1 _ _ _ _ _ _ _ _ _ _ _ w hb
  · by_cases ha0 : as_ = 0
    · subst ha0
      by_cases hb : bs = 1
      · subst hb
        by_cases hn : an = bn
        · subst hn
          by_cases hp : bp ≤ ap
          · by_cases hm : left ≤ other
            · rw [Int.min_eq_left hm] at h
              by_cases h3 : left < 1
              · exact match_Bl0 _ _ _ _ _ _ _ _ _ w hp hm h3
              · by_cases h4 : left < al
                · exact match_Bl1 _ _ _ _ _ _ _ _ _ w hp hm (by omega) h4
                · exact match_Bl2 _ _ _ _ _ _ _ _ _ w hp hm (by omega) (by omega) (by omega)
            · rw [Int.min_eq_right (by omega)] at h
              by_cases h3 : other < 1
              · exact match_Bo0 _ _ _ _ _ _ _ _ _ w hp (by omega) h3
              · by_cases h4 : other < al
                · exact match_Bo1 _ _ _ _ _ _ _ _ _ w hp (by omega) (by omega) h4
                · exact match_Bo2 _ _ _ _ _ _ _ _ _ w hp (by omega) (by omega) (by omega) (by omega)
          · exact match_B4 _ _ _ _ _ _ _ _ _ w (by omega)
        · exact match_B3 _ _ _ _ _ _ _ _ _ _ w hn
      · exact match_B2 _ _ _ _ _ _ _ _ _ _ _ w hb
    · exact match_B1 _ _ _ _ _ _ _ _ _ _ _ _ w ha0 ha

set_option maxHeartbeats 400000 in
theorem awake11 (w : World) : Calls Try.prog 11 #[] w fun e w' => e = .returned (.bool true) ∧ Below w.heap.size w w' := by
  go_enter Try.func11, Try.ntmps11
  go_wp2_with (go_at_call 12; refine (match_yes _ _ _ _ _ _ _ _ _ _ _ _ 3 8 _ (by unfold Yes; decide) (by omega) (by omega) (by omega) (by omega)).mono ?_; rintro e w1 ⟨rfl, hb1⟩; have hB1 : Below w.heap.size w w1 := Below.step (by go_grown) hb1)
  go_ret
  exact ⟨rfl, by go_grown⟩
end Go.Proofs.Ytaljmcdldjlnnaa

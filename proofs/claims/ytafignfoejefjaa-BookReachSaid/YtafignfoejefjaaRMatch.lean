/-
  The document's own Match (gloamingref07), way by way.
-/
import Derived.Test.YtafignfoejefjaaRows
import Derived.WalkKit
import Derived.ProofKit
import Derived.OpenShut
import Derived.ShutString
import Derived.Below
import Derived.Outline
import Derived.WalkLawsBesides
import Derived.WalkSpells
import Derived.Handy
import Derived.Deep.QuietTactic
import Derived.BigQuiet
import Derived.RegionTactic
import Derived.ChangeAlike
import Derived.Lib.Hide
import Derived.BigRegion
import Derived.Test.YtafignfoejefjaaKit
import Derived.Test.YtafignfoejefjaaMatch
namespace Go.Proofs.Ytafignfoejefjaa
open Go.ChangeShapes Go.WideShapes Go.ChangeAt Go.RowKit
def Yes (an as_ ap al bn bs bp bl left other m p : Int) : Prop :=
  ((as_ = 1 ∧ bs = 0 ∧ ap ≤ bp) ∨ (as_ = 0 ∧ bs = 1 ∧ bp ≤ ap)) ∧ an = bn ∧ m = min left other ∧ 1 ≤ m ∧ al ≤ m ∧ bl ≤ m ∧ p = (ap + bp) / 2
/-- Two orders that don't. -/
def No (an as_ ap al bn bs bp bl left other : Int) : Prop :=
  ¬ (((as_ = 1 ∧ bs = 0 ∧ ap ≤ bp) ∨ (as_ = 0 ∧ bs = 1 ∧ bp ≤ ap)) ∧ an = bn ∧ 1 ≤ min left other ∧ al ≤ min left other ∧ bl ≤ min left other)

theorem match_yes (an as_ ap al au bn bs bp bl bu left other m p : Int) (w : World) (h : Yes an as_ ap al bn bs bp bl left other m p) (g1 : 1 ≤ ap) (g2 : ap ≤ 9999) (g3 : 1 ≤ bp) (g4 : bp ≤ 9999) :
    Calls Try.prog 32 #[.agg #[.int .i64 an, .int .i64 as_, .int .i64 ap, .int .i64 al, .int .i64 au], .agg #[.int .i64 bn, .int .i64 bs, .int .i64 bp, .int .i64 bl, .int .i64 bu], .int .i64 left, .int .i64 other] w (MatchPost w m p) := by
  obtain ⟨hs, rfl, rfl, h1, h2, h3, rfl⟩ := h
  rcases hs with ⟨rfl, rfl, hp⟩ | ⟨rfl, rfl, hp⟩
  · rw [Int.add_comm ap bp]
    by_cases hm : left ≤ other
    · rw [Int.min_eq_left hm] at h1 h2 h3 ⊢
      exact match_Al3 _ _ _ _ _ _ _ _ _ w hp hm h1 h2 h3 g1 g2 g3 g4
    · rw [Int.min_eq_right (by omega)] at h1 h2 h3 ⊢
      exact match_Ao3 _ _ _ _ _ _ _ _ _ w hp (by omega) h1 h2 h3 g1 g2 g3 g4
  · by_cases hm : left ≤ other
    · rw [Int.min_eq_left hm] at h1 h2 h3 ⊢
      exact match_Bl3 _ _ _ _ _ _ _ _ _ w hp hm h1 h2 h3 g1 g2 g3 g4
    · rw [Int.min_eq_right (by omega)] at h1 h2 h3 ⊢
      exact match_Bo3 _ _ _ _ _ _ _ _ _ w hp (by omega) h1 h2 h3 g1 g2 g3 g4

theorem match_no (an as_ ap al au bn bs bp bl bu left other : Int) (w : World) (h : No an as_ ap al bn bs bp bl left other) :
    Calls Try.prog 32 #[.agg #[.int .i64 an, .int .i64 as_, .int .i64 ap, .int .i64 al, .int .i64 au], .agg #[.int .i64 bn, .int .i64 bs, .int .i64 bp, .int .i64 bl, .int .i64 bu], .int .i64 left, .int .i64 other] w (MatchPost w 0 0) := by
  unfold No at h
  by_cases ha : as_ = 1
  · subst ha
    by_cases hb : bs = 0
    · subst hb
      by_cases hn : bn = an
      · subst hn
        by_cases hp : ap ≤ bp
        · by_cases hm : left ≤ other
          · rw [Int.min_eq_left hm] at h
            by_cases h3 : left < 1
            · exact match_Al0 _ _ _ _ _ _ _ _ _ w hp hm h3
            · by_cases h4 : left < al
              · exact match_Al1 _ _ _ _ _ _ _ _ _ w hp hm (by omega) h4
              · exact match_Al2 _ _ _ _ _ _ _ _ _ w hp hm (by omega) (by omega) (by omega)
          · rw [Int.min_eq_right (by omega)] at h
            by_cases h3 : other < 1
            · exact match_Ao0 _ _ _ _ _ _ _ _ _ w hp (by omega) h3
            · by_cases h4 : other < al
              · exact match_Ao1 _ _ _ _ _ _ _ _ _ w hp (by omega) (by omega) h4
              · exact match_Ao2 _ _ _ _ _ _ _ _ _ w hp (by omega) (by omega) (by omega) (by omega)
        · exact match_A3 _ _ _ _ _ _ _ _ _ w (by omega)
      · exact match_A2 _ _ _ _ _ _ _ _ _ _ w hn
    · exact match_A1 _ _ _ _ _ _ _ _ _ _ _ w hb
  · by_cases ha0 : as_ = 0
    · subst ha0
      by_cases hb : bs = 1
      · subst hb
        by_cases hn : an = bn
        · subst hn
          by_cases hp : bp ≤ ap
          · by_cases hm : left ≤ other
            · rw [Int.min_eq_left hm] at h
              by_cases h3 : left < 1
              · exact match_Bl0 _ _ _ _ _ _ _ _ _ w hp hm h3
              · by_cases h4 : left < al
                · exact match_Bl1 _ _ _ _ _ _ _ _ _ w hp hm (by omega) h4
                · exact match_Bl2 _ _ _ _ _ _ _ _ _ w hp hm (by omega) (by omega) (by omega)
            · rw [Int.min_eq_right (by omega)] at h
              by_cases h3 : other < 1
              · exact match_Bo0 _ _ _ _ _ _ _ _ _ w hp (by omega) h3
              · by_cases h4 : other < al
                · exact match_Bo1 _ _ _ _ _ _ _ _ _ w hp (by omega) (by omega) h4
                · exact match_Bo2 _ _ _ _ _ _ _ _ _ w hp (by omega) (by omega) (by omega) (by omega)
          · exact match_B4 _ _ _ _ _ _ _ _ _ w (by omega)
        · exact match_B3 _ _ _ _ _ _ _ _ _ _ w hn
      · exact match_B2 _ _ _ _ _ _ _ _ _ _ _ w hb
    · exact match_B1 _ _ _ _ _ _ _ _ _ _ _ _ w ha0 ha

def RefPost (w : World) (q p : Int) (e : Ending) (w' : World) : Prop := e = .returned (.tuple #[.int .i64 q, .int .i64 p]) ∧ Below w.heap.size w w'
set_option maxHeartbeats 400000 in
theorem rmatch_A1 (an ap al au bn bs bp bl bu left other : Int) (w : World) (h : bs ≠ 0) :
    Calls Try.prog 34 #[.agg #[.int .i64 an, .int .i64 1, .int .i64 ap, .int .i64 al, .int .i64 au], .agg #[.int .i64 bn, .int .i64 bs, .int .i64 bp, .int .i64 bl, .int .i64 bu], .int .i64 left, .int .i64 other] w (RefPost w 0 0) := by
  have f0 : (bs != 0) = true := by simpa using h
  go_enter Try.func34, Try.ntmps34
  go_wp2
  go_ret2
  exact ⟨rfl, by go_grown⟩
set_option maxHeartbeats 400000 in
theorem rmatch_A2 (an ap al au bn bp bl bu left other : Int) (w : World) (h : bn ≠ an) :
    Calls Try.prog 34 #[.agg #[.int .i64 an, .int .i64 1, .int .i64 ap, .int .i64 al, .int .i64 au], .agg #[.int .i64 bn, .int .i64 0, .int .i64 bp, .int .i64 bl, .int .i64 bu], .int .i64 left, .int .i64 other] w (RefPost w 0 0) := by
  have f0 : (bn != an) = true := by simpa using h
  go_enter Try.func34, Try.ntmps34
  go_wp2
  go_ret2
  exact ⟨rfl, by go_grown⟩
set_option maxHeartbeats 400000 in
theorem rmatch_A3 (n ap al au bp bl bu left other : Int) (w : World) (h : bp < ap) :
    Calls Try.prog 34 #[.agg #[.int .i64 n, .int .i64 1, .int .i64 ap, .int .i64 al, .int .i64 au], .agg #[.int .i64 n, .int .i64 0, .int .i64 bp, .int .i64 bl, .int .i64 bu], .int .i64 left, .int .i64 other] w (RefPost w 0 0) := by
  have f0 : (n != n) = false := by simp
  go_enter Try.func34, Try.ntmps34
  go_wp2
  go_ret2
  exact ⟨rfl, by go_grown⟩
set_option maxHeartbeats 400000 in
theorem rmatch_B1 (an as_ ap al au bn bs bp bl bu left other : Int) (w : World) (h : as_ ≠ 0) (h1 : as_ ≠ 1) :
    Calls Try.prog 34 #[.agg #[.int .i64 an, .int .i64 as_, .int .i64 ap, .int .i64 al, .int .i64 au], .agg #[.int .i64 bn, .int .i64 bs, .int .i64 bp, .int .i64 bl, .int .i64 bu], .int .i64 left, .int .i64 other] w (RefPost w 0 0) := by
  have f0 : (as_ != 0) = true := by simpa using h
  have f1 : (as_ == 1) = false := by simpa using h1
  go_enter Try.func34, Try.ntmps34
  go_wp2
  go_ret2
  exact ⟨rfl, by go_grown⟩
set_option maxHeartbeats 400000 in
theorem rmatch_B2 (an ap al au bn bs bp bl bu left other : Int) (w : World) (h : bs ≠ 1) :
    Calls Try.prog 34 #[.agg #[.int .i64 an, .int .i64 0, .int .i64 ap, .int .i64 al, .int .i64 au], .agg #[.int .i64 bn, .int .i64 bs, .int .i64 bp, .int .i64 bl, .int .i64 bu], .int .i64 left, .int .i64 other] w (RefPost w 0 0) := by
  have f0 : (bs != 1) = true := by simpa using h
  go_enter Try.func34, Try.ntmps34
  go_wp2
  go_ret2
  exact ⟨rfl, by go_grown⟩
set_option maxHeartbeats 400000 in
theorem rmatch_B3 (an ap al au bn bp bl bu left other : Int) (w : World) (h : an ≠ bn) :
    Calls Try.prog 34 #[.agg #[.int .i64 an, .int .i64 0, .int .i64 ap, .int .i64 al, .int .i64 au], .agg #[.int .i64 bn, .int .i64 1, .int .i64 bp, .int .i64 bl, .int .i64 bu], .int .i64 left, .int .i64 other] w (RefPost w 0 0) := by
  have f0 : (an != bn) = true := by simpa using h
  go_enter Try.func34, Try.ntmps34
  go_wp2
  go_ret2
  exact ⟨rfl, by go_grown⟩
set_option maxHeartbeats 400000 in
theorem rmatch_B4 (n ap al au bp bl bu left other : Int) (w : World) (h : ap < bp) :
    Calls Try.prog 34 #[.agg #[.int .i64 n, .int .i64 0, .int .i64 ap, .int .i64 al, .int .i64 au], .agg #[.int .i64 n, .int .i64 1, .int .i64 bp, .int .i64 bl, .int .i64 bu], .int .i64 left, .int .i64 other] w (RefPost w 0 0) := by
  have f0 : (n != n) = false := by simp
  go_enter Try.func34, Try.ntmps34
  go_wp2
  go_ret2
  exact ⟨rfl, by go_grown⟩
set_option maxHeartbeats 400000 in
theorem rmatch_Al0 (n ap al au bp bl bu left other : Int) (w : World) (h : ap ≤ bp) (hm : left < other) (h3 : left < 1) :
    Calls Try.prog 34 #[.agg #[.int .i64 n, .int .i64 1, .int .i64 ap, .int .i64 al, .int .i64 au], .agg #[.int .i64 n, .int .i64 0, .int .i64 bp, .int .i64 bl, .int .i64 bu], .int .i64 left, .int .i64 other] w (RefPost w 0 0) := by
  have f0 : (n != n) = false := by simp
  go_enter Try.func34, Try.ntmps34
  go_wp2
  go_ret2
  exact ⟨rfl, by go_grown⟩
set_option maxHeartbeats 400000 in
theorem rmatch_Al1 (n ap al au bp bl bu left other : Int) (w : World) (h : ap ≤ bp) (hm : left < other) (h3 : 1 ≤ left) (h4 : left < bl) :
    Calls Try.prog 34 #[.agg #[.int .i64 n, .int .i64 1, .int .i64 ap, .int .i64 al, .int .i64 au], .agg #[.int .i64 n, .int .i64 0, .int .i64 bp, .int .i64 bl, .int .i64 bu], .int .i64 left, .int .i64 other] w (RefPost w 0 0) := by
  have f0 : (n != n) = false := by simp
  go_enter Try.func34, Try.ntmps34
  go_wp2
  go_ret2
  exact ⟨rfl, by go_grown⟩
set_option maxHeartbeats 400000 in
theorem rmatch_Al2 (n ap al au bp bl bu left other : Int) (w : World) (h : ap ≤ bp) (hm : left < other) (h3 : 1 ≤ left) (h4 : bl ≤ left) (h5 : left < al) :
    Calls Try.prog 34 #[.agg #[.int .i64 n, .int .i64 1, .int .i64 ap, .int .i64 al, .int .i64 au], .agg #[.int .i64 n, .int .i64 0, .int .i64 bp, .int .i64 bl, .int .i64 bu], .int .i64 left, .int .i64 other] w (RefPost w 0 0) := by
  have f0 : (n != n) = false := by simp
  go_enter Try.func34, Try.ntmps34
  go_wp2
  go_ret2
  exact ⟨rfl, by go_grown⟩
set_option maxHeartbeats 400000 in
theorem rmatch_Al3 (n ap al au bp bl bu left other : Int) (w : World) (h : ap ≤ bp) (hm : left < other) (h3 : 1 ≤ left) (h4 : bl ≤ left) (h5 : al ≤ left) (g1 : 1 ≤ ap) (g2 : ap ≤ 9999) (g3 : 1 ≤ bp) (g4 : bp ≤ 9999) :
    Calls Try.prog 34 #[.agg #[.int .i64 n, .int .i64 1, .int .i64 ap, .int .i64 al, .int .i64 au], .agg #[.int .i64 n, .int .i64 0, .int .i64 bp, .int .i64 bl, .int .i64 bu], .int .i64 left, .int .i64 other] w (RefPost w left ((bp + ap) / 2)) := by
  have f0 : (n != n) = false := by simp
  go_enter Try.func34, Try.ntmps34
  go_wp2_with fail
  go_region
  go_wp2
  go_ret2
  exact ⟨rfl, by go_grown⟩
set_option maxHeartbeats 400000 in
theorem rmatch_Ao0 (n ap al au bp bl bu left other : Int) (w : World) (h : ap ≤ bp) (hm : other ≤ left) (h3 : other < 1) :
    Calls Try.prog 34 #[.agg #[.int .i64 n, .int .i64 1, .int .i64 ap, .int .i64 al, .int .i64 au], .agg #[.int .i64 n, .int .i64 0, .int .i64 bp, .int .i64 bl, .int .i64 bu], .int .i64 left, .int .i64 other] w (RefPost w 0 0) := by
  have f0 : (n != n) = false := by simp
  go_enter Try.func34, Try.ntmps34
  go_wp2
  go_ret2
  exact ⟨rfl, by go_grown⟩
set_option maxHeartbeats 400000 in
theorem rmatch_Ao1 (n ap al au bp bl bu left other : Int) (w : World) (h : ap ≤ bp) (hm : other ≤ left) (h3 : 1 ≤ other) (h4 : other < bl) :
    Calls Try.prog 34 #[.agg #[.int .i64 n, .int .i64 1, .int .i64 ap, .int .i64 al, .int .i64 au], .agg #[.int .i64 n, .int .i64 0, .int .i64 bp, .int .i64 bl, .int .i64 bu], .int .i64 left, .int .i64 other] w (RefPost w 0 0) := by
  have f0 : (n != n) = false := by simp
  go_enter Try.func34, Try.ntmps34
  go_wp2
  go_ret2
  exact ⟨rfl, by go_grown⟩
set_option maxHeartbeats 400000 in
theorem rmatch_Ao2 (n ap al au bp bl bu left other : Int) (w : World) (h : ap ≤ bp) (hm : other ≤ left) (h3 : 1 ≤ other) (h4 : bl ≤ other) (h5 : other < al) :
    Calls Try.prog 34 #[.agg #[.int .i64 n, .int .i64 1, .int .i64 ap, .int .i64 al, .int .i64 au], .agg #[.int .i64 n, .int .i64 0, .int .i64 bp, .int .i64 bl, .int .i64 bu], .int .i64 left, .int .i64 other] w (RefPost w 0 0) := by
  have f0 : (n != n) = false := by simp
  go_enter Try.func34, Try.ntmps34
  go_wp2
  go_ret2
  exact ⟨rfl, by go_grown⟩
set_option maxHeartbeats 400000 in
theorem rmatch_Ao3 (n ap al au bp bl bu left other : Int) (w : World) (h : ap ≤ bp) (hm : other ≤ left) (h3 : 1 ≤ other) (h4 : bl ≤ other) (h5 : al ≤ other) (g1 : 1 ≤ ap) (g2 : ap ≤ 9999) (g3 : 1 ≤ bp) (g4 : bp ≤ 9999) :
    Calls Try.prog 34 #[.agg #[.int .i64 n, .int .i64 1, .int .i64 ap, .int .i64 al, .int .i64 au], .agg #[.int .i64 n, .int .i64 0, .int .i64 bp, .int .i64 bl, .int .i64 bu], .int .i64 left, .int .i64 other] w (RefPost w other ((bp + ap) / 2)) := by
  have f0 : (n != n) = false := by simp
  go_enter Try.func34, Try.ntmps34
  go_wp2_with fail
  go_region
  go_wp2
  go_ret2
  exact ⟨rfl, by go_grown⟩
set_option maxHeartbeats 400000 in
theorem rmatch_Bl0 (n ap al au bp bl bu left other : Int) (w : World) (h : bp ≤ ap) (hm : left ≤ other) (h3 : left < 1) :
    Calls Try.prog 34 #[.agg #[.int .i64 n, .int .i64 0, .int .i64 ap, .int .i64 al, .int .i64 au], .agg #[.int .i64 n, .int .i64 1, .int .i64 bp, .int .i64 bl, .int .i64 bu], .int .i64 left, .int .i64 other] w (RefPost w 0 0) := by
  have f0 : (n != n) = false := by simp
  go_enter Try.func34, Try.ntmps34
  go_wp2
  go_ret2
  exact ⟨rfl, by go_grown⟩
set_option maxHeartbeats 400000 in
theorem rmatch_Bl1 (n ap al au bp bl bu left other : Int) (w : World) (h : bp ≤ ap) (hm : left ≤ other) (h3 : 1 ≤ left) (h4 : left < al) :
    Calls Try.prog 34 #[.agg #[.int .i64 n, .int .i64 0, .int .i64 ap, .int .i64 al, .int .i64 au], .agg #[.int .i64 n, .int .i64 1, .int .i64 bp, .int .i64 bl, .int .i64 bu], .int .i64 left, .int .i64 other] w (RefPost w 0 0) := by
  have f0 : (n != n) = false := by simp
  go_enter Try.func34, Try.ntmps34
  go_wp2
  go_ret2
  exact ⟨rfl, by go_grown⟩
set_option maxHeartbeats 400000 in
theorem rmatch_Bl2 (n ap al au bp bl bu left other : Int) (w : World) (h : bp ≤ ap) (hm : left ≤ other) (h3 : 1 ≤ left) (h4 : al ≤ left) (h5 : left < bl) :
    Calls Try.prog 34 #[.agg #[.int .i64 n, .int .i64 0, .int .i64 ap, .int .i64 al, .int .i64 au], .agg #[.int .i64 n, .int .i64 1, .int .i64 bp, .int .i64 bl, .int .i64 bu], .int .i64 left, .int .i64 other] w (RefPost w 0 0) := by
  have f0 : (n != n) = false := by simp
  go_enter Try.func34, Try.ntmps34
  go_wp2
  go_ret2
  exact ⟨rfl, by go_grown⟩
set_option maxHeartbeats 400000 in
theorem rmatch_Bl3 (n ap al au bp bl bu left other : Int) (w : World) (h : bp ≤ ap) (hm : left ≤ other) (h3 : 1 ≤ left) (h4 : al ≤ left) (h5 : bl ≤ left) (g1 : 1 ≤ ap) (g2 : ap ≤ 9999) (g3 : 1 ≤ bp) (g4 : bp ≤ 9999) :
    Calls Try.prog 34 #[.agg #[.int .i64 n, .int .i64 0, .int .i64 ap, .int .i64 al, .int .i64 au], .agg #[.int .i64 n, .int .i64 1, .int .i64 bp, .int .i64 bl, .int .i64 bu], .int .i64 left, .int .i64 other] w (RefPost w left ((ap + bp) / 2)) := by
  have f0 : (n != n) = false := by simp
  go_enter Try.func34, Try.ntmps34
  go_wp2_with fail
  go_region
  go_wp2
  go_ret2
  exact ⟨rfl, by go_grown⟩
set_option maxHeartbeats 400000 in
theorem rmatch_Bo0 (n ap al au bp bl bu left other : Int) (w : World) (h : bp ≤ ap) (hm : other < left) (h3 : other < 1) :
    Calls Try.prog 34 #[.agg #[.int .i64 n, .int .i64 0, .int .i64 ap, .int .i64 al, .int .i64 au], .agg #[.int .i64 n, .int .i64 1, .int .i64 bp, .int .i64 bl, .int .i64 bu], .int .i64 left, .int .i64 other] w (RefPost w 0 0) := by
  have f0 : (n != n) = false := by simp
  go_enter Try.func34, Try.ntmps34
  go_wp2
  go_ret2
  exact ⟨rfl, by go_grown⟩
set_option maxHeartbeats 400000 in
theorem rmatch_Bo1 (n ap al au bp bl bu left other : Int) (w : World) (h : bp ≤ ap) (hm : other < left) (h3 : 1 ≤ other) (h4 : other < al) :
    Calls Try.prog 34 #[.agg #[.int .i64 n, .int .i64 0, .int .i64 ap, .int .i64 al, .int .i64 au], .agg #[.int .i64 n, .int .i64 1, .int .i64 bp, .int .i64 bl, .int .i64 bu], .int .i64 left, .int .i64 other] w (RefPost w 0 0) := by
  have f0 : (n != n) = false := by simp
  go_enter Try.func34, Try.ntmps34
  go_wp2
  go_ret2
  exact ⟨rfl, by go_grown⟩
set_option maxHeartbeats 400000 in
theorem rmatch_Bo2 (n ap al au bp bl bu left other : Int) (w : World) (h : bp ≤ ap) (hm : other < left) (h3 : 1 ≤ other) (h4 : al ≤ other) (h5 : other < bl) :
    Calls Try.prog 34 #[.agg #[.int .i64 n, .int .i64 0, .int .i64 ap, .int .i64 al, .int .i64 au], .agg #[.int .i64 n, .int .i64 1, .int .i64 bp, .int .i64 bl, .int .i64 bu], .int .i64 left, .int .i64 other] w (RefPost w 0 0) := by
  have f0 : (n != n) = false := by simp
  go_enter Try.func34, Try.ntmps34
  go_wp2
  go_ret2
  exact ⟨rfl, by go_grown⟩
set_option maxHeartbeats 400000 in
theorem rmatch_Bo3 (n ap al au bp bl bu left other : Int) (w : World) (h : bp ≤ ap) (hm : other < left) (h3 : 1 ≤ other) (h4 : al ≤ other) (h5 : bl ≤ other) (g1 : 1 ≤ ap) (g2 : ap ≤ 9999) (g3 : 1 ≤ bp) (g4 : bp ≤ 9999) :
    Calls Try.prog 34 #[.agg #[.int .i64 n, .int .i64 0, .int .i64 ap, .int .i64 al, .int .i64 au], .agg #[.int .i64 n, .int .i64 1, .int .i64 bp, .int .i64 bl, .int .i64 bu], .int .i64 left, .int .i64 other] w (RefPost w other ((ap + bp) / 2)) := by
  have f0 : (n != n) = false := by simp
  go_enter Try.func34, Try.ntmps34
  go_wp2_with fail
  go_region
  go_wp2
  go_ret2
  exact ⟨rfl, by go_grown⟩

theorem rmatch_yes (an as_ ap al au bn bs bp bl bu left other m p : Int) (w : World) (h : Yes an as_ ap al bn bs bp bl left other m p) (g1 : 1 ≤ ap) (g2 : ap ≤ 9999) (g3 : 1 ≤ bp) (g4 : bp ≤ 9999) :
    Calls Try.prog 34 #[.agg #[.int .i64 an, .int .i64 as_, .int .i64 ap, .int .i64 al, .int .i64 au], .agg #[.int .i64 bn, .int .i64 bs, .int .i64 bp, .int .i64 bl, .int .i64 bu], .int .i64 left, .int .i64 other] w (RefPost w m p) := by
  obtain ⟨hs, rfl, rfl, h1, h2, h3, rfl⟩ := h
  rcases hs with ⟨rfl, rfl, hp⟩ | ⟨rfl, rfl, hp⟩
  · rw [Int.add_comm ap bp]
    by_cases hm : left < other
    · rw [Int.min_eq_left (by omega)] at h1 h2 h3 ⊢
      exact rmatch_Al3 _ _ _ _ _ _ _ _ _ w hp hm h1 h3 h2 g1 g2 g3 g4
    · rw [Int.min_eq_right (by omega)] at h1 h2 h3 ⊢
      exact rmatch_Ao3 _ _ _ _ _ _ _ _ _ w hp (by omega) h1 h3 h2 g1 g2 g3 g4
  · by_cases hm : left ≤ other
    · rw [Int.min_eq_left hm] at h1 h2 h3 ⊢
      exact rmatch_Bl3 _ _ _ _ _ _ _ _ _ w hp hm h1 h2 h3 g1 g2 g3 g4
    · rw [Int.min_eq_right (by omega)] at h1 h2 h3 ⊢
      exact rmatch_Bo3 _ _ _ _ _ _ _ _ _ w hp (by omega) h1 h2 h3 g1 g2 g3 g4

theorem rmatch_no (an as_ ap al au bn bs bp bl bu left other : Int) (w : World) (h : No an as_ ap al bn bs bp bl left other) :
    Calls Try.prog 34 #[.agg #[.int .i64 an, .int .i64 as_, .int .i64 ap, .int .i64 al, .int .i64 au], .agg #[.int .i64 bn, .int .i64 bs, .int .i64 bp, .int .i64 bl, .int .i64 bu], .int .i64 left, .int .i64 other] w (RefPost w 0 0) := by
  unfold No at h
  by_cases ha : as_ = 1
  · subst ha
    by_cases hb : bs = 0
    · subst hb
      by_cases hn : bn = an
      · subst hn
        by_cases hp : ap ≤ bp
        · by_cases hm : left < other
          · rw [Int.min_eq_left (by omega)] at h
            by_cases h3 : left < 1
            · exact rmatch_Al0 _ _ _ _ _ _ _ _ _ w hp hm h3
            · by_cases h4 : left < bl
              · exact rmatch_Al1 _ _ _ _ _ _ _ _ _ w hp hm (by omega) h4
              · exact rmatch_Al2 _ _ _ _ _ _ _ _ _ w hp hm (by omega) (by omega) (by omega)
          · rw [Int.min_eq_right (by omega)] at h
            by_cases h3 : other < 1
            · exact rmatch_Ao0 _ _ _ _ _ _ _ _ _ w hp (by omega) h3
            · by_cases h4 : other < bl
              · exact rmatch_Ao1 _ _ _ _ _ _ _ _ _ w hp (by omega) (by omega) h4
              · exact rmatch_Ao2 _ _ _ _ _ _ _ _ _ w hp (by omega) (by omega) (by omega) (by omega)
        · exact rmatch_A3 _ _ _ _ _ _ _ _ _ w (by omega)
      · exact rmatch_A2 _ _ _ _ _ _ _ _ _ _ w hn
    · exact rmatch_A1 _ _ _ _ _ _ _ _ _ _ _ w hb
  · by_cases ha0 : as_ = 0
    · subst ha0
      by_cases hb : bs = 1
      · subst hb
        by_cases hn : an = bn
        · subst hn
          by_cases hp : bp ≤ ap
          · by_cases hm : left ≤ other
            · rw [Int.min_eq_left hm] at h
              by_cases h3 : left < 1
              · exact rmatch_Bl0 _ _ _ _ _ _ _ _ _ w hp hm h3
              · by_cases h4 : left < al
                · exact rmatch_Bl1 _ _ _ _ _ _ _ _ _ w hp hm (by omega) h4
                · exact rmatch_Bl2 _ _ _ _ _ _ _ _ _ w hp hm (by omega) (by omega) (by omega)
            · rw [Int.min_eq_right (by omega)] at h
              by_cases h3 : other < 1
              · exact rmatch_Bo0 _ _ _ _ _ _ _ _ _ w hp (by omega) h3
              · by_cases h4 : other < al
                · exact rmatch_Bo1 _ _ _ _ _ _ _ _ _ w hp (by omega) (by omega) h4
                · exact rmatch_Bo2 _ _ _ _ _ _ _ _ _ w hp (by omega) (by omega) (by omega) (by omega)
          · exact rmatch_B4 _ _ _ _ _ _ _ _ _ w (by omega)
        · exact rmatch_B3 _ _ _ _ _ _ _ _ _ _ w hn
      · exact rmatch_B2 _ _ _ _ _ _ _ _ _ _ _ w hb
    · exact rmatch_B1 _ _ _ _ _ _ _ _ _ _ _ _ w ha0 ha

theorem yes_or_no (an as_ ap al bn bs bp bl left other : Int) : No an as_ ap al bn bs bp bl left other ∨ Yes an as_ ap al bn bs bp bl left other (min left other) ((ap + bp) / 2) := by
  unfold No Yes; omega
end Go.Proofs.Ytafignfoejefjaa

/-
  Texts of the machine of pairs, part 3.
-/
import Derived.BigRegion
import Derived.Laws.BitsAllLaws
import Derived.Laws.BitsLemmas
import Derived.Test.YtmjkhefgpobinaaM1
import Derived.Test.YtmjkhefgpobinaaM2
namespace Go.Proofs.Ytmjkhefgpobinaa
open Go.ChangeShapes Go.WideShapes Go.ChangeAt Go.RowKit
def Yes (an as_ ap al bn bs bp bl left other m p : Int) : Prop :=
  ((as_ = 1 ∧ bs = 0 ∧ ap ≤ bp) ∨ (as_ = 0 ∧ bs = 1 ∧ bp ≤ ap)) ∧ an = bn ∧ m = min left other ∧ 1 ≤ m ∧ al ≤ m ∧ bl ≤ m ∧ p = (ap + bp) / 2
/-- Two orders that don't. -/
def No (an as_ ap al bn bs bp bl left other : Int) : Prop :=
  ¬ (((as_ = 1 ∧ bs = 0 ∧ ap ≤ bp) ∨ (as_ = 0 ∧ bs = 1 ∧ bp ≤ ap)) ∧ an = bn ∧ 1 ≤ min left other ∧ al ≤ min left other ∧ bl ≤ min left other)

theorem match_yes (an as_ ap al au bn bs bp bl bu left other m p : Int) (w : World) (h : Yes an as_ ap al bn bs bp bl left other m p) (g1 : 1 ≤ ap) (g2 : ap ≤ 9999) (g3 : 1 ≤ bp) (g4 : bp ≤ 9999) :
    Calls Try.prog 74 #[.agg #[.int .i64 an, .int .i64 as_, .int .i64 ap, .int .i64 al, .int .i64 au], .agg #[.int .i64 bn, .int .i64 bs, .int .i64 bp, .int .i64 bl, .int .i64 bu], .int .i64 left, .int .i64 other] w (MatchPost w m p) := by
  obtain ⟨hs, rfl, rfl, h1, h2, h3, rfl⟩ := h
  rcases hs with ⟨rfl, rfl, hp⟩ | ⟨rfl, rfl, hp⟩
  · rw [Int.add_comm ap bp]
    by_cases hm : left ≤ other
    · rw [Int.min_eq_left hm] at h1 h2 h3 ⊢
      exact match_Al3 _ _ _ _ _ _ _ _ _ w hp hm h1 h2 h3 g1 g2 g3 g4
    · rw [Int.min_eq_right (by omega)] at h1 h2 h3 ⊢
      exact match_Ao3 _ _ _ _ _ _ _ _ _ w hp (by omega) h1 h2 h3 g1 g2 g3 g4
  · by_cases hm : left ≤ other
    · rw [Int.min_eq_left hm] at h1 h2 h3 ⊢
      exact match_Bl3 _ _ _ _ _ _ _ _ _ w hp hm h1 h2 h3 g1 g2 g3 g4
    · rw [Int.min_eq_right (by omega)] at h1 h2 h3 ⊢
      exact match_Bo3 _ _ _ _ _ _ _ _ _ w hp (by omega) h1 h2 h3 g1 g2 g3 g4

theorem match_no (an as_ ap al au bn bs bp bl bu left other : Int) (w : World) (h : No an as_ ap al bn bs bp bl left other) :
    Calls Try.prog 74 #[.agg #[.int .i64 an, .int .i64 as_, .int .i64 ap, .int .i64 al, .int .i64 au], .agg #[.int .i64 bn, .int .i64 bs, .int .i64 bp, .int .i64 bl, .int .i64 bu], .int .i64 left, .int .i64 other] w (MatchPost w 0 0) := by
  unfold No at h
  by_cases ha : as_ = 1
  · subst ha
    by_cases hb : bs = 0
    · subst hb
      by_cases hn : bn = an
      · subst hn
        by_cases hp : ap ≤ bp
        · by_cases hm : left ≤ other
          · rw [Int.min_eq_left hm] at h
            by_cases h3 : left < 1
            · exact match_Al0 _ _ _ _ _ _ _ _ _ w hp hm h3
            · by_cases h4 : left < al
              · exact match_Al1 _ _ _ _ _ _ _ _ _ w hp hm (by omega) h4
              · exact match_Al2 _ _ _ _ _ _ _ _ _ w hp hm (by omega) (by omega) (by omega)
          · rw [Int.min_eq_right (by omega)] at h
            by_cases h3 : other < 1
            · exact match_Ao0 _ _ _ _ _ _ _ _ _ w hp (by omega) h3
            · by_cases h4 : other < al
              · exact match_Ao1 _ _ _ _ _ _ _ _ _ w hp (by omega) (by omega) h4
              · exact match_Ao2 _ _ _ _ _ _ _ _ _ w hp (by omega) (by omega) (by omega) (by omega)
        · exact match_A3 _ _ _ _ _ _ _ _ _ w (by omega)
      · exact match_A2 _ _ _ _ _ _ _ _ _ _ w hn
    · exact match_A1 _ _ _ _ _ _ _ _ _ _ _ w hb
  · by_cases ha0 : as_ = 0
    · subst ha0
      by_cases hb : bs = 1
      · subst hb
        by_cases hn : an = bn
        · subst hn
          by_cases hp : bp ≤ ap
          · by_cases hm : left ≤ other
            · rw [Int.min_eq_left hm] at h
              by_cases h3 : left < 1
              · exact match_Bl0 _ _ _ _ _ _ _ _ _ w hp hm h3
              · by_cases h4 : left < al
                · exact match_Bl1 _ _ _ _ _ _ _ _ _ w hp hm (by omega) h4
                · exact match_Bl2 _ _ _ _ _ _ _ _ _ w hp hm (by omega) (by omega) (by omega)
            · rw [Int.min_eq_right (by omega)] at h
              by_cases h3 : other < 1
              · exact match_Bo0 _ _ _ _ _ _ _ _ _ w hp (by omega) h3
              · by_cases h4 : other < al
                · exact match_Bo1 _ _ _ _ _ _ _ _ _ w hp (by omega) (by omega) h4
                · exact match_Bo2 _ _ _ _ _ _ _ _ _ w hp (by omega) (by omega) (by omega) (by omega)
          · exact match_B4 _ _ _ _ _ _ _ _ _ w (by omega)
        · exact match_B3 _ _ _ _ _ _ _ _ _ _ w hn
      · exact match_B2 _ _ _ _ _ _ _ _ _ _ _ w hb
    · exact match_B1 _ _ _ _ _ _ _ _ _ _ _ _ w ha0 ha

def RefPost (w : World) (q p : Int) (e : Ending) (w' : World) : Prop := e = .returned (.tuple #[.int .i64 q, .int .i64 p]) ∧ Below w.heap.size w w'
set_option maxHeartbeats 400000 in
theorem rmatch_A1 (an ap al au bn bs bp bl bu left other : Int) (w : World) (h : bs ≠ 0) :
    Calls Try.prog 12 #[.agg #[.int .i64 an, .int .i64 1, .int .i64 ap, .int .i64 al, .int .i64 au], .agg #[.int .i64 bn, .int .i64 bs, .int .i64 bp, .int .i64 bl, .int .i64 bu], .int .i64 left, .int .i64 other] w (RefPost w 0 0) := by
  have f0 : (bs != 0) = true := by simpa using h
  go_enter Try.func12, Try.ntmps12
  go_wp2
  go_ret2
  exact ⟨rfl, by go_grown⟩
set_option maxHeartbeats 400000 in
theorem rmatch_A2 (an ap al au bn bp bl bu left other : Int) (w : World) (h : bn ≠ an) :
    Calls Try.prog 12 #[.agg #[.int .i64 an, .int .i64 1, .int .i64 ap, .int .i64 al, .int .i64 au], .agg #[.int .i64 bn, .int .i64 0, .int .i64 bp, .int .i64 bl, .int .i64 bu], .int .i64 left, .int .i64 other] w (RefPost w 0 0) := by
  have f0 : (bn != an) = true := by simpa using h
  go_enter Try.func12, Try.ntmps12
  go_wp2
  go_ret2
  exact ⟨rfl, by go_grown⟩
set_option maxHeartbeats 400000 in
theorem rmatch_A3 (n ap al au bp bl bu left other : Int) (w : World) (h : bp < ap) :
    Calls Try.prog 12 #[.agg #[.int .i64 n, .int .i64 1, .int .i64 ap, .int .i64 al, .int .i64 au], .agg #[.int .i64 n, .int .i64 0, .int .i64 bp, .int .i64 bl, .int .i64 bu], .int .i64 left, .int .i64 other] w (RefPost w 0 0) := by
  have f0 : (n != n) = false := by simp
  go_enter Try.func12, Try.ntmps12
  go_wp2
  go_ret2
  exact ⟨rfl, by go_grown⟩
set_option maxHeartbeats 400000 in
theorem rmatch_B1 (an as_ ap al au bn bs bp bl bu left other : Int) (w : World) (h : as_ ≠ 0) (h1 : as_ ≠ 1) :
    Calls Try.prog 12 #[.agg #[.int .i64 an, .int .i64 as_, .int .i64 ap, .int .i64 al, .int .i64 au], .agg #[.int .i64 bn, .int .i64 bs, .int .i64 bp, .int .i64 bl, .int .i64 bu], .int .i64 left, .int .i64 other] w (RefPost w 0 0) := by
  have f0 : (as_ != 0) = true := by simpa using h
  have f1 : (as_ == 1) = false := by simpa using h1
  go_enter Try.func12, Try.ntmps12
  go_wp2
  go_ret2
  exact ⟨rfl, by go_grown⟩
set_option maxHeartbeats 400000 in
theorem rmatch_B2 (an ap al au bn bs bp bl bu left other : Int) (w : World) (h : bs ≠ 1) :
    Calls Try.prog 12 #[.agg #[.int .i64 an, .int .i64 0, .int .i64 ap, .int .i64 al, .int .i64 au], .agg #[.int .i64 bn, .int .i64 bs, .int .i64 bp, .int .i64 bl, .int .i64 bu], .int .i64 left, .int .i64 other] w (RefPost w 0 0) := by
  have f0 : (bs != 1) = true := by simpa using h
  go_enter Try.func12, Try.ntmps12
  go_wp2
  go_ret2
  exact ⟨rfl, by go_grown⟩
set_option maxHeartbeats 400000 in
theorem rmatch_B3 (an ap al au bn bp bl bu left other : Int) (w : World) (h : an ≠ bn) :
    Calls Try.prog 12 #[.agg #[.int .i64 an, .int .i64 0, .int .i64 ap, .int .i64 al, .int .i64 au], .agg #[.int .i64 bn, .int .i64 1, .int .i64 bp, .int .i64 bl, .int .i64 bu], .int .i64 left, .int .i64 other] w (RefPost w 0 0) := by
  have f0 : (an != bn) = true := by simpa using h
  go_enter Try.func12, Try.ntmps12
  go_wp2
  go_ret2
  exact ⟨rfl, by go_grown⟩
set_option maxHeartbeats 400000 in
theorem rmatch_B4 (n ap al au bp bl bu left other : Int) (w : World) (h : ap < bp) :
    Calls Try.prog 12 #[.agg #[.int .i64 n, .int .i64 0, .int .i64 ap, .int .i64 al, .int .i64 au], .agg #[.int .i64 n, .int .i64 1, .int .i64 bp, .int .i64 bl, .int .i64 bu], .int .i64 left, .int .i64 other] w (RefPost w 0 0) := by
  have f0 : (n != n) = false := by simp
  go_enter Try.func12, Try.ntmps12
  go_wp2
  go_ret2
  exact ⟨rfl, by go_grown⟩
set_option maxHeartbeats 400000 in
theorem rmatch_Al0 (n ap al au bp bl bu left other : Int) (w : World) (h : ap ≤ bp) (hm : left < other) (h3 : left < 1) :
    Calls Try.prog 12 #[.agg #[.int .i64 n, .int .i64 1, .int .i64 ap, .int .i64 al, .int .i64 au], .agg #[.int .i64 n, .int .i64 0, .int .i64 bp, .int .i64 bl, .int .i64 bu], .int .i64 left, .int .i64 other] w (RefPost w 0 0) := by
  have f0 : (n != n) = false := by simp
  go_enter Try.func12, Try.ntmps12
  go_wp2
  go_ret2
  exact ⟨rfl, by go_grown⟩
set_option maxHeartbeats 400000 in
theorem rmatch_Al1 (n ap al au bp bl bu left other : Int) (w : World) (h : ap ≤ bp) (hm : left < other) (h3 : 1 ≤ left) (h4 : left < bl) :
    Calls Try.prog 12 #[.agg #[.int .i64 n, .int .i64 1, .int .i64 ap, .int .i64 al, .int .i64 au], .agg #[.int .i64 n, .int .i64 0, .int .i64 bp, .int .i64 bl, .int .i64 bu], .int .i64 left, .int .i64 other] w (RefPost w 0 0) := by
  have f0 : (n != n) = false := by simp
  go_enter Try.func12, Try.ntmps12
  go_wp2
  go_ret2
  exact ⟨rfl, by go_grown⟩
set_option maxHeartbeats 400000 in
theorem rmatch_Al2 (n ap al au bp bl bu left other : Int) (w : World) (h : ap ≤ bp) (hm : left < other) (h3 : 1 ≤ left) (h4 : bl ≤ left) (h5 : left < al) :
    Calls Try.prog 12 #[.agg #[.int .i64 n, .int .i64 1, .int .i64 ap, .int .i64 al, .int .i64 au], .agg #[.int .i64 n, .int .i64 0, .int .i64 bp, .int .i64 bl, .int .i64 bu], .int .i64 left, .int .i64 other] w (RefPost w 0 0) := by
  have f0 : (n != n) = false := by simp
  go_enter Try.func12, Try.ntmps12
  go_wp2
  go_ret2
  exact ⟨rfl, by go_grown⟩
set_option maxHeartbeats 400000 in
theorem rmatch_Al3 (n ap al au bp bl bu left other : Int) (w : World) (h : ap ≤ bp) (hm : left < other) (h3 : 1 ≤ left) (h4 : bl ≤ left) (h5 : al ≤ left) (g1 : 1 ≤ ap) (g2 : ap ≤ 9999) (g3 : 1 ≤ bp) (g4 : bp ≤ 9999) :
    Calls Try.prog 12 #[.agg #[.int .i64 n, .int .i64 1, .int .i64 ap, .int .i64 al, .int .i64 au], .agg #[.int .i64 n, .int .i64 0, .int .i64 bp, .int .i64 bl, .int .i64 bu], .int .i64 left, .int .i64 other] w (RefPost w left ((bp + ap) / 2)) := by
  have f0 : (n != n) = false := by simp
  go_enter Try.func12, Try.ntmps12
  go_wp2_with fail
  go_region
  go_wp2
  go_ret2
  exact ⟨rfl, by go_grown⟩
set_option maxHeartbeats 400000 in
theorem rmatch_Ao0 (n ap al au bp bl bu left other : Int) (w : World) (h : ap ≤ bp) (hm : other ≤ left) (h3 : other < 1) :
    Calls Try.prog 12 #[.agg #[.int .i64 n, .int .i64 1, .int .i64 ap, .int .i64 al, .int .i64 au], .agg #[.int .i64 n, .int .i64 0, .int .i64 bp, .int .i64 bl, .int .i64 bu], .int .i64 left, .int .i64 other] w (RefPost w 0 0) := by
  have f0 : (n != n) = false := by simp
  go_enter Try.func12, Try.ntmps12
  go_wp2
  go_ret2
  exact ⟨rfl, by go_grown⟩
set_option maxHeartbeats 400000 in
theorem rmatch_Ao1 (n ap al au bp bl bu left other : Int) (w : World) (h : ap ≤ bp) (hm : other ≤ left) (h3 : 1 ≤ other) (h4 : other < bl) :
    Calls Try.prog 12 #[.agg #[.int .i64 n, .int .i64 1, .int .i64 ap, .int .i64 al, .int .i64 au], .agg #[.int .i64 n, .int .i64 0, .int .i64 bp, .int .i64 bl, .int .i64 bu], .int .i64 left, .int .i64 other] w (RefPost w 0 0) := by
  have f0 : (n != n) = false := by simp
  go_enter Try.func12, Try.ntmps12
  go_wp2
  go_ret2
  exact ⟨rfl, by go_grown⟩
set_option maxHeartbeats 400000 in
theorem rmatch_Ao2 (n ap al au bp bl bu left other : Int) (w : World) (h : ap ≤ bp) (hm : other ≤ left) (h3 : 1 ≤ other) (h4 : bl ≤ other) (h5 : other < al) :
    Calls Try.prog 12 #[.agg #[.int .i64 n, .int .i64 1, .int .i64 ap, .int .i64 al, .int .i64 au], .agg #[.int .i64 n, .int .i64 0, .int .i64 bp, .int .i64 bl, .int .i64 bu], .int .i64 left, .int .i64 other] w (RefPost w 0 0) := by
  have f0 : (n != n) = false := by simp
  go_enter Try.func12, Try.ntmps12
  go_wp2
  go_ret2
  exact ⟨rfl, by go_grown⟩
set_option maxHeartbeats 400000 in
theorem rmatch_Ao3 (n ap al au bp bl bu left other : Int) (w : World) (h : ap ≤ bp) (hm : other ≤ left) (h3 : 1 ≤ other) (h4 : bl ≤ other) (h5 : al ≤ other) (g1 : 1 ≤ ap) (g2 : ap ≤ 9999) (g3 : 1 ≤ bp) (g4 : bp ≤ 9999) :
    Calls Try.prog 12 #[.agg #[.int .i64 n, .int .i64 1, .int .i64 ap, .int .i64 al, .int .i64 au], .agg #[.int .i64 n, .int .i64 0, .int .i64 bp, .int .i64 bl, .int .i64 bu], .int .i64 left, .int .i64 other] w (RefPost w other ((bp + ap) / 2)) := by
  have f0 : (n != n) = false := by simp
  go_enter Try.func12, Try.ntmps12
  go_wp2_with fail
  go_region
  go_wp2
  go_ret2
  exact ⟨rfl, by go_grown⟩
set_option maxHeartbeats 400000 in
theorem rmatch_Bl0 (n ap al au bp bl bu left other : Int) (w : World) (h : bp ≤ ap) (hm : left ≤ other) (h3 : left < 1) :
    Calls Try.prog 12 #[.agg #[.int .i64 n, .int .i64 0, .int .i64 ap, .int .i64 al, .int .i64 au], .agg #[.int .i64 n, .int .i64 1, .int .i64 bp, .int .i64 bl, .int .i64 bu], .int .i64 left, .int .i64 other] w (RefPost w 0 0) := by
  have f0 : (n != n) = false := by simp
  go_enter Try.func12, Try.ntmps12
  go_wp2
  go_ret2
  exact ⟨rfl, by go_grown⟩
set_option maxHeartbeats 400000 in
theorem rmatch_Bl1 (n ap al au bp bl bu left other : Int) (w : World) (h : bp ≤ ap) (hm : left ≤ other) (h3 : 1 ≤ left) (h4 : left < al) :
    Calls Try.prog 12 #[.agg #[.int .i64 n, .int .i64 0, .int .i64 ap, .int .i64 al, .int .i64 au], .agg #[.int .i64 n, .int .i64 1, .int .i64 bp, .int .i64 bl, .int .i64 bu], .int .i64 left, .int .i64 other] w (RefPost w 0 0) := by
  have f0 : (n != n) = false := by simp
  go_enter Try.func12, Try.ntmps12
  go_wp2
  go_ret2
  exact ⟨rfl, by go_grown⟩
set_option maxHeartbeats 400000 in
theorem rmatch_Bl2 (n ap al au bp bl bu left other : Int) (w : World) (h : bp ≤ ap) (hm : left ≤ other) (h3 : 1 ≤ left) (h4 : al ≤ left) (h5 : left < bl) :
    Calls Try.prog 12 #[.agg #[.int .i64 n, .int .i64 0, .int .i64 ap, .int .i64 al, .int .i64 au], .agg #[.int .i64 n, .int .i64 1, .int .i64 bp, .int .i64 bl, .int .i64 bu], .int .i64 left, .int .i64 other] w (RefPost w 0 0) := by
  have f0 : (n != n) = false := by simp
  go_enter Try.func12, Try.ntmps12
  go_wp2
  go_ret2
  exact ⟨rfl, by go_grown⟩
set_option maxHeartbeats 400000 in
theorem rmatch_Bl3 (n ap al au bp bl bu left other : Int) (w : World) (h : bp ≤ ap) (hm : left ≤ other) (h3 : 1 ≤ left) (h4 : al ≤ left) (h5 : bl ≤ left) (g1 : 1 ≤ ap) (g2 : ap ≤ 9999) (g3 : 1 ≤ bp) (g4 : bp ≤ 9999) :
    Calls Try.prog 12 #[.agg #[.int .i64 n, .int .i64 0, .int .i64 ap, .int .i64 al, .int .i64 au], .agg #[.int .i64 n, .int .i64 1, .int .i64 bp, .int .i64 bl, .int .i64 bu], .int .i64 left, .int .i64 other] w (RefPost w left ((ap + bp) / 2)) := by
  have f0 : (n != n) = false := by simp
  go_enter Try.func12, Try.ntmps12
  go_wp2_with fail
  go_region
  go_wp2
  go_ret2
  exact ⟨rfl, by go_grown⟩
set_option maxHeartbeats 400000 in
theorem rmatch_Bo0 (n ap al au bp bl bu left other : Int) (w : World) (h : bp ≤ ap) (hm : other < left) (h3 : other < 1) :
    Calls Try.prog 12 #[.agg #[.int .i64 n, .int .i64 0, .int .i64 ap, .int .i64 al, .int .i64 au], .agg #[.int .i64 n, .int .i64 1, .int .i64 bp, .int .i64 bl, .int .i64 bu], .int .i64 left, .int .i64 other] w (RefPost w 0 0) := by
  have f0 : (n != n) = false := by simp
  go_enter Try.func12, Try.ntmps12
  go_wp2
  go_ret2
  exact ⟨rfl, by go_grown⟩
set_option maxHeartbeats 400000 in
theorem rmatch_Bo1 (n ap al au bp bl bu left other : Int) (w : World) (h : bp ≤ ap) (hm : other < left) (h3 : 1 ≤ other) (h4 : other < al) :
    Calls Try.prog 12 #[.agg #[.int .i64 n, .int .i64 0, .int .i64 ap, .int .i64 al, .int .i64 au], .agg #[.int .i64 n, .int .i64 1, .int .i64 bp, .int .i64 bl, .int .i64 bu], .int .i64 left, .int .i64 other] w (RefPost w 0 0) := by
  have f0 : (n != n) = false := by simp
  go_enter Try.func12, Try.ntmps12
  go_wp2
  go_ret2
  exact ⟨rfl, by go_grown⟩
set_option maxHeartbeats 400000 in
theorem rmatch_Bo2 (n ap al au bp bl bu left other : Int) (w : World) (h : bp ≤ ap) (hm : other < left) (h3 : 1 ≤ other) (h4 : al ≤ other) (h5 : other < bl) :
    Calls Try.prog 12 #[.agg #[.int .i64 n, .int .i64 0, .int .i64 ap, .int .i64 al, .int .i64 au], .agg #[.int .i64 n, .int .i64 1, .int .i64 bp, .int .i64 bl, .int .i64 bu], .int .i64 left, .int .i64 other] w (RefPost w 0 0) := by
  have f0 : (n != n) = false := by simp
  go_enter Try.func12, Try.ntmps12
  go_wp2
  go_ret2
  exact ⟨rfl, by go_grown⟩
set_option maxHeartbeats 400000 in
theorem rmatch_Bo3 (n ap al au bp bl bu left other : Int) (w : World) (h : bp ≤ ap) (hm : other < left) (h3 : 1 ≤ other) (h4 : al ≤ other) (h5 : bl ≤ other) (g1 : 1 ≤ ap) (g2 : ap ≤ 9999) (g3 : 1 ≤ bp) (g4 : bp ≤ 9999) :
    Calls Try.prog 12 #[.agg #[.int .i64 n, .int .i64 0, .int .i64 ap, .int .i64 al, .int .i64 au], .agg #[.int .i64 n, .int .i64 1, .int .i64 bp, .int .i64 bl, .int .i64 bu], .int .i64 left, .int .i64 other] w (RefPost w other ((ap + bp) / 2)) := by
  have f0 : (n != n) = false := by simp
  go_enter Try.func12, Try.ntmps12
  go_wp2_with fail
  go_region
  go_wp2
  go_ret2
  exact ⟨rfl, by go_grown⟩

theorem rmatch_yes (an as_ ap al au bn bs bp bl bu left other m p : Int) (w : World) (h : Yes an as_ ap al bn bs bp bl left other m p) (g1 : 1 ≤ ap) (g2 : ap ≤ 9999) (g3 : 1 ≤ bp) (g4 : bp ≤ 9999) :
    Calls Try.prog 12 #[.agg #[.int .i64 an, .int .i64 as_, .int .i64 ap, .int .i64 al, .int .i64 au], .agg #[.int .i64 bn, .int .i64 bs, .int .i64 bp, .int .i64 bl, .int .i64 bu], .int .i64 left, .int .i64 other] w (RefPost w m p) := by
  obtain ⟨hs, rfl, rfl, h1, h2, h3, rfl⟩ := h
  rcases hs with ⟨rfl, rfl, hp⟩ | ⟨rfl, rfl, hp⟩
  · rw [Int.add_comm ap bp]
    by_cases hm : left < other
    · rw [Int.min_eq_left (by omega)] at h1 h2 h3 ⊢
      exact rmatch_Al3 _ _ _ _ _ _ _ _ _ w hp hm h1 h3 h2 g1 g2 g3 g4
    · rw [Int.min_eq_right (by omega)] at h1 h2 h3 ⊢
      exact rmatch_Ao3 _ _ _ _ _ _ _ _ _ w hp (by omega) h1 h3 h2 g1 g2 g3 g4
  · by_cases hm : left ≤ other
    · rw [Int.min_eq_left hm] at h1 h2 h3 ⊢
      exact rmatch_Bl3 _ _ _ _ _ _ _ _ _ w hp hm h1 h2 h3 g1 g2 g3 g4
    · rw [Int.min_eq_right (by omega)] at h1 h2 h3 ⊢
      exact rmatch_Bo3 _ _ _ _ _ _ _ _ _ w hp (by omega) h1 h2 h3 g1 g2 g3 g4

theorem rmatch_no (an as_ ap al au bn bs bp bl bu left other : Int) (w : World) (h : No an as_ ap al bn bs bp bl left other) :
    Calls Try.prog 12 #[.agg #[.int .i64 an, .int .i64 as_, .int .i64 ap, .int .i64 al, .int .i64 au], .agg #[.int .i64 bn, .int .i64 bs, .int .i64 bp, .int .i64 bl, .int .i64 bu], .int .i64 left, .int .i64 other] w (RefPost w 0 0) := by
  unfold No at h
  by_cases ha : as_ = 1
  · subst ha
    by_cases hb : bs = 0
    · subst hb
      by_cases hn : bn = an
      · subst hn
        by_cases hp : ap ≤ bp
        · by_cases hm : left < other
          · rw [Int.min_eq_left (by omega)] at h
            by_cases h3 : left < 1
            · exact rmatch_Al0 _ _ _ _ _ _ _ _ _ w hp hm h3
            · by_cases h4 : left < bl
              · exact rmatch_Al1 _ _ _ _ _ _ _ _ _ w hp hm (by omega) h4
              · exact rmatch_Al2 _ _ _ _ _ _ _ _ _ w hp hm (by omega) (by omega) (by omega)
          · rw [Int.min_eq_right (by omega)] at h
            by_cases h3 : other < 1
            · exact rmatch_Ao0 _ _ _ _ _ _ _ _ _ w hp (by omega) h3
            · by_cases h4 : other < bl
              · exact rmatch_Ao1 _ _ _ _ _ _ _ _ _ w hp (by omega) (by omega) h4
              · exact rmatch_Ao2 _ _ _ _ _ _ _ _ _ w hp (by omega) (by omega) (by omega) (by omega)
        · exact rmatch_A3 _ _ _ _ _ _ _ _ _ w (by omega)
      · exact rmatch_A2 _ _ _ _ _ _ _ _ _ _ w hn
    · exact rmatch_A1 _ _ _ _ _ _ _ _ _ _ _ w hb
  · by_cases ha0 : as_ = 0
    · subst ha0
      by_cases hb : bs = 1
      · subst hb
        by_cases hn : an = bn
        · subst hn
          by_cases hp : bp ≤ ap
          · by_cases hm : left ≤ other
            · rw [Int.min_eq_left hm] at h
              by_cases h3 : left < 1
              · exact rmatch_Bl0 _ _ _ _ _ _ _ _ _ w hp hm h3
              · by_cases h4 : left < al
                · exact rmatch_Bl1 _ _ _ _ _ _ _ _ _ w hp hm (by omega) h4
                · exact rmatch_Bl2 _ _ _ _ _ _ _ _ _ w hp hm (by omega) (by omega) (by omega)
            · rw [Int.min_eq_right (by omega)] at h
              by_cases h3 : other < 1
              · exact rmatch_Bo0 _ _ _ _ _ _ _ _ _ w hp (by omega) h3
              · by_cases h4 : other < al
                · exact rmatch_Bo1 _ _ _ _ _ _ _ _ _ w hp (by omega) (by omega) h4
                · exact rmatch_Bo2 _ _ _ _ _ _ _ _ _ w hp (by omega) (by omega) (by omega) (by omega)
          · exact rmatch_B4 _ _ _ _ _ _ _ _ _ w (by omega)
        · exact rmatch_B3 _ _ _ _ _ _ _ _ _ _ w hn
      · exact rmatch_B2 _ _ _ _ _ _ _ _ _ _ _ w hb
    · exact rmatch_B1 _ _ _ _ _ _ _ _ _ _ _ _ w ha0 ha

theorem yes_or_no (an as_ ap al bn bs bp bl left other : Int) : No an as_ ap al bn bs bp bl left other ∨ Yes an as_ ap al bn bs bp bl left other (min left other) ((ap + bp) / 2) := by
  unfold No Yes; omega
end Go.Proofs.Ytmjkhefgpobinaa
namespace Go.Proofs.Ytmjkhefgpobinaa
open Go.ChangeShapes Go.WideShapes Go.ChangeAt Go.RowKit

def Z0 : Array Value := (Value.int .i64 0 :: List.replicate 65 (Value.int .u8 0)).toArray
/-- A layout's cells: how many fields, where each begins. -/
structure Lay (cs : Array Value) (n : Nat) (s : Nat → Int) : Prop where
  size : cs.size = 66
  one : cs.all (·.oneCell') = true
  cnt : cs[0]? = some (.int .i64 n)
  at_ : ∀ i, i ≤ 64 → cs[1 + i]? = some (.int .u8 (s i))
theorem zero70 (w : World) : (zeroValue 123).run Try.prog w = .ok (.agg Z0) w := by kernel_rfl
theorem lay_cell {cs : Array Value} (w : World) (i : Nat) (v : Value) (h : cs[i]? = some v) : (w.alloc (.cells cs 123)).cell? ⟨w.heap.size, i, none⟩ = some v := by
  rw [cell_of_row _ _ _ _ _ _ (heap_alloc_new w (.cells cs 123))]; exact h
theorem wpList_load_row_on {P : Program} {ops : Array Oper} {rest : List Oper} {o : Oper} {a : Act} {w : World} {Q : Exit → Act → World → Prop} (hw : Region.wanted o (yielded ops a.tmps) = true) (ty : TypeId) (x : Operand) (ho : o.op = .load ty x)
    (g : Nat) (hx : a.eval x = .pointer (some ⟨g, 0, none⟩)) (t : TypeId) (cs : Array Value) (fr : Nat × Nat) (d : TypeDesc) (hg : w.heap[g]? = some (.cells cs t fr))
    (hu : P.underlying ty = some d) (hd : (match d with | .struct _ | .array _ _ => true | _ => false) = true) (hi : (P.info? ty).map (·.size) = some cs.size)
    (h : wpList P ops Q rest (a.put o.dst (.agg cs)) w) : wpList P ops Q (o :: rest) a w :=
  wpList_step fun K hK => by rw [if_pos hw]; exact wp_load_row ty x ho g hx t cs fr d hg hu hd hi (hK _ _ h)
theorem ret_u64 {a b : Int} (h : a = b) : Ending.returned (.int .u64 a) = .returned (.int .u64 b) := by rw [h]
theorem pow_bd (k : Nat) (h : k ≤ 32) : (1 : Int) ≤ 2 ^ k ∧ (2 : Int) ^ k ≤ 4294967296 := by
  have h1 : 2 ^ k ≤ 2 ^ 32 := Nat.pow_le_pow_right (by decide) h
  have h0 : 1 ≤ 2 ^ k := Nat.one_le_two_pow
  have e : (2 : Int) ^ k = ((2 ^ k : Nat) : Int) := by simp
  rw [e]
  omega
theorem pow_wrap (k : Nat) (h : k ≤ 32) : IntKind.u64.wrap (IntKind.u64.wrap (2 ^ k) - 1) = 2 ^ k - 1 := by
  have := pow_bd k h
  rw [IntWalk.u64_in (2 ^ k) (by omega), IntWalk.u64_in (2 ^ k - 1) (by omega)]
theorem lay_info {cs : Array Value} {n : Nat} {s : Nat → Int} (hL : Lay cs n s) : (Try.prog.info? 123).map (·.size) = some cs.size := by rw [hL.size]; kernel_rfl

set_option maxRecDepth 100000 in
set_option maxHeartbeats 1000000 in
theorem has_yes {cs : Array Value} {n : Nat} {s : Nat → Int} (hL : Lay cs n s) (i : Int) (w : World) (h0 : 0 ≤ i) (h1 : i < n) (hn : n ≤ 64) : Calls Try.prog 69 #[.agg cs, .int .i64 i] w fun e w' => e = .returned (.bool true) ∧ Below w.heap.size w w' := by
  have c0 := lay_cell w 0 _ hL.cnt
  go_enter Try.func69, Try.ntmps69
  go_wp2
  go_ret
  exact ⟨rfl, by go_grown⟩
set_option maxRecDepth 100000 in
set_option maxHeartbeats 1000000 in
theorem has_no {cs : Array Value} {n : Nat} {s : Nat → Int} (hL : Lay cs n s) (i : Int) (w : World) (h1 : i < 0 ∨ (n : Int) ≤ i) (hn : n ≤ 64) : Calls Try.prog 69 #[.agg cs, .int .i64 i] w fun e w' => e = .returned (.bool false) ∧ Below w.heap.size w w' := by
  have c0 := lay_cell w 0 _ hL.cnt
  rcases h1 with h1 | h1
  · have hd : decide (0 ≤ i) = false := decide_eq_false (by omega)
    go_enter Try.func69, Try.ntmps69
    go_wp2
    go_ret
    exact ⟨rfl, by go_grown⟩
  · have hd : decide (i < (n : Int)) = false := decide_eq_false (by omega)
    go_enter Try.func69, Try.ntmps69
    go_wp2
    go_ret
    exact ⟨rfl, by go_grown⟩
set_option maxRecDepth 100000 in
set_option maxHeartbeats 1000000 in
theorem most_yes {cs : Array Value} {n : Nat} {s : Nat → Int} (hL : Lay cs n s) (i : Nat) (w : World) (h1 : i < n) (hn : n ≤ 64) (q0 : 0 ≤ s i) (q1 : s i < s (i + 1)) (q2 : s (i + 1) ≤ 64) (q3 : s (i + 1) - s i ≤ 32) : Calls Try.prog 70 #[.agg cs, .int .i64 i] w fun e w' => e = .returned (.int .u64 (2 ^ (s (i + 1) - s i).toNat - 1)) ∧ Below w.heap.size w w' := by
  have c0 := lay_cell w (1 + i) _ (hL.at_ i (by omega))
  have c1 := lay_cell w (1 + (i + 1)) _ (hL.at_ (i + 1) (by omega))
  have HSZ := Lib.hid (lay_info hL)
  have HA := Lib.hid (heap_alloc_new w (.cells cs 123))
  go_enter Try.func70, Try.ntmps70
  go_wp2_with (refine wpList_load_row rfl 123 _ rfl w.heap.size rfl 123 _ (0, 0) _ HA.out Try.underlying123 rfl HSZ.out ?_)
  refine (has_yes hL i _ (by omega) (by omega) hn).mono ?_
  rintro e w1 ⟨rfl, hb1⟩
  obtain ⟨hc1, hf1⟩ := bcell hb1
  have hz1 := hb1.size
  simp only [World.size_alloc] at hz1 hc1 hf1
  have hy1 : w.heap.size < w1.heap.size := by omega
  have hB1 : Below w.heap.size w w1 := Below.step (by go_grown) hb1
  have d0 : w1.cell? ⟨w.heap.size, 1 + i, none⟩ = some (.int .u8 (s i)) := (hb1.cell (p := ⟨w.heap.size, 1 + i, none⟩) (by simp)).trans c0
  have d1 : w1.cell? ⟨w.heap.size, 1 + (i + 1), none⟩ = some (.int .u8 (s (i + 1))) := (hb1.cell (p := ⟨w.heap.size, 1 + (i + 1), none⟩) (by simp)).trans c1
  clear hb1 c0 c1 hc1 hf1
  go_wp2_with fail
  have e1 : IntKind.i64.wrap ((i : Int) + 1) = (i : Int) + 1 := IntWalk.i64_in _ (by omega)
  have e2 : (0 : Int) ≤ (i : Int) + 1 := by omega
  have e3 : (i : Int) + 1 < 65 := by omega
  have e4 : ((i : Int) + 1).toNat = i + 1 := by omega
  have e5 : (i : Int) < 65 := by omega
  have e6 : IntKind.u8.wrap (s (i + 1) - s i) = s (i + 1) - s i := IntWalk.u8_in _ (by omega)
  go_region
  go_wp2
  go_ret
  exact ⟨ret_u64 (pow_wrap _ (by omega)), by go_grown⟩

set_option maxRecDepth 100000 in
set_option maxHeartbeats 1000000 in
theorem fits_yes {cs : Array Value} {n : Nat} {s : Nat → Int} (hL : Lay cs n s) (i : Nat) (v : Int) (w : World) (h1 : i < n) (hn : n ≤ 64) (q0 : 0 ≤ s i) (q1 : s i < s (i + 1)) (q2 : s (i + 1) ≤ 64) (q3 : s (i + 1) - s i ≤ 32) (v0 : 0 ≤ v) (v1 : v < 2 ^ (s (i + 1) - s i).toNat) : Calls Try.prog 79 #[.agg cs, .int .i64 i, .int .i64 v] w fun e w' => e = .returned (.bool true) ∧ Below w.heap.size w w' := by
  have hv : v ≤ 2 ^ (s (i + 1) - s i).toNat - 1 := by omega
  have HSZ := Lib.hid (lay_info hL)
  have HA := Lib.hid (heap_alloc_new w (.cells cs 123))
  have pb := pow_bd (s (i + 1) - s i).toNat (by omega)
  go_enter Try.func79, Try.ntmps79
  go_wp2_with (refine wpList_load_row_on rfl 123 _ rfl w.heap.size rfl 123 _ (0, 0) _ HA.out Try.underlying123 rfl HSZ.out ?_)
  refine (most_yes hL i _ h1 hn q0 q1 q2 q3).mono ?_
  rintro e w1 ⟨rfl, hb1⟩
  have hB1 : Below w.heap.size w w1 := Below.step (by go_grown) hb1
  clear hb1
  go_wp2
  go_ret
  exact ⟨rfl, hB1⟩

set_option maxRecDepth 100000 in
set_option maxHeartbeats 1000000 in
theorem fits_big {cs : Array Value} {n : Nat} {s : Nat → Int} (hL : Lay cs n s) (i : Nat) (v : Int) (w : World) (h1 : i < n) (hn : n ≤ 64) (q0 : 0 ≤ s i) (q1 : s i < s (i + 1)) (q2 : s (i + 1) ≤ 64) (q3 : s (i + 1) - s i ≤ 32) (v1 : 2 ^ (s (i + 1) - s i).toNat ≤ v) (v2 : v ≤ 9223372036854775807) : Calls Try.prog 79 #[.agg cs, .int .i64 i, .int .i64 v] w fun e w' => e = .returned (.bool false) ∧ Below w.heap.size w w' := by
  have hv : decide (v ≤ 2 ^ (s (i + 1) - s i).toNat - 1) = false := decide_eq_false (by omega)
  have v0 : 0 ≤ v := by have := pow_bd (s (i + 1) - s i).toNat (by omega); omega
  have HSZ := Lib.hid (lay_info hL)
  have HA := Lib.hid (heap_alloc_new w (.cells cs 123))
  have pb := pow_bd (s (i + 1) - s i).toNat (by omega)
  go_enter Try.func79, Try.ntmps79
  go_wp2_with (refine wpList_load_row_on rfl 123 _ rfl w.heap.size rfl 123 _ (0, 0) _ HA.out Try.underlying123 rfl HSZ.out ?_)
  refine (most_yes hL i _ h1 hn q0 q1 q2 q3).mono ?_
  rintro e w1 ⟨rfl, hb1⟩
  have hB1 : Below w.heap.size w w1 := Below.step (by go_grown) hb1
  clear hb1
  go_wp2
  go_ret
  exact ⟨rfl, hB1⟩

set_option maxRecDepth 100000 in
set_option maxHeartbeats 1000000 in
theorem fits_neg {cs : Array Value} {n : Nat} {s : Nat → Int} (hL : Lay cs n s) (i : Nat) (v : Int) (w : World) (h1 : i < n) (hn : n ≤ 64) (q0 : 0 ≤ s i) (q1 : s i < s (i + 1)) (q2 : s (i + 1) ≤ 64) (q3 : s (i + 1) - s i ≤ 32) (v1 : v < 0) : Calls Try.prog 79 #[.agg cs, .int .i64 i, .int .i64 v] w fun e w' => e = .returned (.bool false) ∧ Below w.heap.size w w' := by
  have hd : decide (0 ≤ v) = false := decide_eq_false (by omega)
  have HSZ := Lib.hid (lay_info hL)
  have HA := Lib.hid (heap_alloc_new w (.cells cs 123))
  have pb := pow_bd (s (i + 1) - s i).toNat (by omega)
  go_enter Try.func79, Try.ntmps79
  go_wp2_with fail
  go_ret
  exact ⟨rfl, by go_grown⟩

/-- A row of numbers that came in. -/
def RowI (w : World) (A : Option Addr) (m : Nat) (z : Nat → Int) : Prop :=
  ∀ k, k < m → ∃ g off, A = some ⟨g, off, none⟩ ∧ g < w.heap.size ∧ w.cell? ⟨g, off + k, none⟩ = some (.int .i64 (z k)) ∧ -9223372036854775808 ≤ z k ∧ z k ≤ 9223372036854775807
/-- Where fields begin. -/
def Steps (n : Nat) (s : Nat → Int) : Prop := s 0 = 0 ∧ n ≤ 64 ∧ ∀ k, k < n → 0 ≤ s k ∧ s k < s (k + 1) ∧ s (k + 1) ≤ 64 ∧ s (k + 1) - s k ≤ 32
/-- Numbers as a word. -/
def word (s z : Nat → Int) : Nat → Nat
  | 0 => 0
  | k + 1 => word s z k + (z k).toNat * 2 ^ (s k).toNat
theorem word_lt {n : Nat} {s z : Nat → Int} (hS : Steps n s) (hv : ∀ k, k < n → 0 ≤ z k ∧ z k < 2 ^ (s (k + 1) - s k).toNat) : ∀ k, k ≤ n → word s z k < 2 ^ (s k).toNat := by
  intro k
  induction k with
  | zero => intro _; exact Nat.two_pow_pos _
  | succ k ih =>
    intro hk
    have h1 := ih (by omega)
    obtain ⟨s0, s1, s2, s3⟩ := hS.2.2 k (by omega)
    obtain ⟨v0, v1⟩ := hv k (by omega)
    have e : (s (k + 1)).toNat = (s (k + 1) - s k).toNat + (s k).toNat := by omega
    have v2 : (z k).toNat < 2 ^ (s (k + 1) - s k).toNat := by
      have h2 : ((2 ^ (s (k + 1) - s k).toNat : Nat) : Int) = (2 : Int) ^ (s (k + 1) - s k).toNat := by simp
      omega
    show word s z k + (z k).toNat * 2 ^ (s k).toNat < _
    rw [e, Nat.pow_add]
    have h3 : ((z k).toNat + 1) * 2 ^ (s k).toNat ≤ 2 ^ (s (k + 1) - s k).toNat * 2 ^ (s k).toNat := Nat.mul_le_mul_right _ v2
    rw [Nat.add_mul, Nat.one_mul] at h3
    omega
theorem or_add (a b i : Nat) (h : a < 2 ^ i) : a ||| b * 2 ^ i = a + b * 2 ^ i := by
  rw [Nat.or_comm, ← Nat.shiftLeft_eq, ← Nat.shiftLeft_add_eq_or_of_lt h, Nat.add_comm]
theorem word_step {n : Nat} {s z : Nat → Int} (hS : Steps n s) (hv : ∀ k, k < n → 0 ≤ z k ∧ z k < 2 ^ (s (k + 1) - s k).toNat) (k : Nat) (hk : k < n) :
    bits .or .u64 ((word s z k : Nat) : Int) (IntKind.u64.wrap (z k * 2 ^ (s k).toNat)) = ((word s z (k + 1) : Nat) : Int) := by
  have h0 := word_lt hS hv k (by omega)
  have h1 := word_lt hS hv (k + 1) (by omega)
  obtain ⟨s0, s1, s2, s3⟩ := hS.2.2 k hk
  obtain ⟨v0, v1⟩ := hv k hk
  have p1 : 2 ^ (s (k + 1)).toNat ≤ 2 ^ 64 := Nat.pow_le_pow_right (by decide) (by omega)
  have h2 : word s z (k + 1) = word s z k + (z k).toNat * 2 ^ (s k).toNat := rfl
  have e : z k * 2 ^ (s k).toNat = (((z k).toNat * 2 ^ (s k).toNat : Nat) : Int) := by
    rw [Int.natCast_mul, Int.toNat_of_nonneg v0]; simp
  rw [e, IntWalk.u64_in _ (by omega), u64_or_nat _ _ (by omega) (by omega), or_add _ _ _ h0]
  rfl

theorem results_cell_tmp {P : Program} {fn : Func} {p q : Tmp} {ty : TypeId} (h : fn.results = #[.cell p ty, .tmp q]) (tmps : Array Value) (w : World) (g : Nat) (t : TypeId) (cs : Array Value) (fr : Nat × Nat) (d : TypeDesc)
    (hp : tmps.getD p undef = .pointer (some ⟨g, 0, none⟩)) (hg : w.heap[g]? = some (.cells cs t fr))
    (hu : P.underlying ty = some d) (hd : (match d with | .struct _ | .array _ _ => true | _ => false) = true) (hi : (P.info? ty).map (·.size) = some cs.size) :
    (results fn tmps).run P w = .ok (.tuple #[.agg cs, tmps.getD q undef]) w := by
  have hp' : tmps[p]?.getD undef = .pointer (some ⟨g, 0, none⟩) := by simpa using hp
  simp [results, h, hp', asAddr, run_loadVar_row w g t ty cs fr d hg hu hd hi]
theorem heap_setRow (w : World) (g : Nat) (t : TypeId) (old cs : Array Value) (hg : w.heap[g]? = some (.cells old t (0, 0))) : (w.setRow g cs).heap[g]? = some (.cells cs t (0, 0)) := by
  simp [World.setRow, Array.getElem?_modify, hg]
theorem blk_set {w : World} {g : Nat} {t : TypeId} {cs : Array Value} (h : w.heap[g]? = some (.cells cs t (0, 0))) (i : Nat) (u : Value) : (w.setCell ⟨g, i, none⟩ u).heap[g]? = some (.cells (cs.setIfInBounds i u) t (0, 0)) := by
  simp [World.setCell, Array.getElem?_modify, h]
theorem blk_far {w : World} {g : Nat} {o : Obj} (h : w.heap[g]? = some o) {p : Addr} (hp : g ≠ p.block) (u : Value) : (w.setCell p u).heap[g]? = some o := (Below.heap_setCell w p u g hp).trans h
theorem blk_frozen {w : World} {g : Nat} {t : TypeId} {cs : Array Value} (h : w.heap[g]? = some (.cells cs t (0, 0))) (i : Nat) : w.frozen? ⟨g, i, none⟩ = false := by
  simp [World.frozen?, h]
theorem blk_lt {w : World} {g : Nat} {o : Obj} (h : w.heap[g]? = some o) : g < w.heap.size := by
  rcases Nat.lt_or_ge g w.heap.size with hlt | hge
  · exact hlt
  · rw [Array.getElem?_eq_none hge] at h; cases h
theorem lay_zero (s : Nat → Int) (h0 : s 0 = 0) : Lay Z0 0 (fun i => if i ≤ 0 then s i else 0) := by
  refine ⟨by simp [Z0], ?_, by simp [Z0], fun i hi => ?_⟩
  · rw [Array.all_eq_true_iff_forall_mem]
    intro x hx
    simp only [Z0, List.mem_toArray, List.mem_cons, List.mem_replicate] at hx
    rcases hx with rfl | ⟨_, rfl⟩ <;> rfl
  · have e : (if i ≤ 0 then s i else 0) = 0 := by
      by_cases hi0 : i ≤ 0
      · rw [if_pos hi0, show i = 0 by omega, h0]
      · rw [if_neg hi0]
    rw [e, Nat.add_comm]
    simp only [Z0, List.getElem?_toArray, List.getElem?_cons_succ]
    rw [List.getElem?_replicate, if_pos (by omega)]
theorem lay_step {cs : Array Value} {k : Nat} {s : Nat → Int} (hL : Lay cs k (fun i => if i ≤ k then s i else 0)) (hk : k < 64) :
    Lay ((cs.setIfInBounds 0 (.int .i64 ((k : Int) + 1))).setIfInBounds (1 + (k + 1)) (.int .u8 (s (k + 1)))) (k + 1) (fun i => if i ≤ k + 1 then s i else 0) := by
  have hz := hL.size
  refine ⟨by simp [hz], ?_, ?_, fun i hi => ?_⟩
  · rw [Array.all_eq_true_iff_forall_mem]
    intro x hx
    have h1 := Array.all_eq_true_iff_forall_mem.1 hL.one
    rcases Array.mem_or_eq_of_mem_setIfInBounds hx with h | rfl
    · rcases Array.mem_or_eq_of_mem_setIfInBounds h with h | rfl
      · exact h1 x h
      · rfl
    · rfl
  · rw [Array.getElem?_setIfInBounds_ne (by omega), Array.getElem?_setIfInBounds_self_of_lt (by omega)]
    simp
  · by_cases e : i = k + 1
    · subst e
      rw [Array.getElem?_setIfInBounds_self_of_lt (by simp; omega), if_pos (Nat.le_refl _)]
    · rw [Array.getElem?_setIfInBounds_ne (by omega), Array.getElem?_setIfInBounds_ne (by omega), hL.at_ i hi]
      by_cases hik : i ≤ k
      · rw [if_pos hik, if_pos (by omega)]
      · rw [if_neg hik, if_neg (by omega)]

set_option maxRecDepth 100000 in
set_option maxHeartbeats 4000000 in
theorem pack_ok {cs : Array Value} {n : Nat} {s z : Nat → Int} (hL : Lay cs n s) (hS : Steps n s) (A : Option Addr) (cap : Nat) (w : World) (hR : RowI w A n z) (hv : ∀ k, k < n → 0 ≤ z k ∧ z k < 2 ^ (s (k + 1) - s k).toNat) :
    Calls Try.prog 71 #[.agg cs, .slice A n cap] w fun e w' => e = .returned (.tuple #[.int .u64 (word s z n), .nilIface]) ∧ Below w.heap.size w w' := by
  have hn := hS.2.1
  have HSZ := Lib.hid (lay_info hL)
  have HA := Lib.hid (heap_alloc_new w (.cells cs 123))
  have c0 := lay_cell w 0 _ hL.cnt
  have HR := Lib.hid hR
  have HS := Lib.hid hS
  have HV := Lib.hid hv
  have HL := Lib.hid hL
  clear hR hS hv hL
  go_enter Try.func71, Try.ntmps71
  go_wp2_with fail
  go_loopg [6, 17] n (fun gk x i wr => ∃ k : Nat, gk = n - k ∧ k ≤ n ∧ i = .int .i64 k ∧ x = .int .u64 (word s z k) ∧ wr.heap[w.heap.size]? = some (.cells cs 123 (0, 0)) ∧ Below w.heap.size w wr)
  case atStart => exact ⟨0, by omega, Nat.zero_le _, rfl, rfl, HA.out, by go_grown⟩
  case round =>
    obtain ⟨k, rfl, hk, rfl, rfl, hH, hB⟩ := hrel
    have HH := Lib.hid hH
    clear hH
    by_cases hlt : k < n
    · obtain ⟨g, off, rfl, hg, hz, z0, z1⟩ := HR.out k hlt
      have hz' : wr.cell? ⟨g, off + k, none⟩ = some (.int .i64 (z k)) := (hB.cell (p := ⟨g, off + k, none⟩) hg).trans hz
      obtain ⟨s0, s1, s2, s3⟩ := HS.out.2.2 k hlt
      obtain ⟨v0, v1⟩ := HV.out k hlt
      clear hz
      go_wp2_with (refine wpList_load_row rfl 123 _ rfl w.heap.size rfl 123 _ (0, 0) _ HH.out Try.underlying123 rfl HSZ.out ?_)
      refine (fits_yes HL.out k (z k) _ hlt hn s0 s1 s2 s3 v0 v1).mono ?_
      rintro e w1 ⟨rfl, hb1⟩
      have hB1 : Below w.heap.size w w1 := Below.step hB hb1
      have hl : w.heap.size < wr.heap.size := by
        rcases Nat.lt_or_ge w.heap.size wr.heap.size with h | h
        · exact h
        · have := HH.out; rw [Array.getElem?_eq_none h] at this; cases this
      have hH1 : w1.heap[w.heap.size]? = some (.cells cs 123 (0, 0)) := (hb1.block w.heap.size hl).trans HH.out
      have d1 : w1.cell? ⟨w.heap.size, 1 + k, none⟩ = some (.int .u8 (s k)) := by rw [cell_of_row _ _ _ _ _ _ hH1]; exact HL.out.at_ k (by omega)
      have HH1 := Lib.hid hH1
      clear hH1 hb1
      have HW := Lib.hid (word_step HS.out HV.out k hlt)
      go_wp2_with fail
      go_roundg (n - (k + 1))
      case measure => omega
      case rel => exact ⟨k + 1, rfl, by omega, by go_num, by rw [HW.out], HH1.out, hB1⟩
    · obtain rfl : k = n := by omega
      go_wp2
      go_ret2
      exact ⟨rfl, hB⟩

/-- A fault at a place, round a code. -/
def AtF (w w' : World) (c i : Int) (v : Value) : Prop := ∃ pb : Nat, v = .iface 154 (.pointer (some ⟨pb, 0, none⟩)) ∧ w.heap.size ≤ pb ∧ pb < w'.heap.size ∧ w'.cell? ⟨pb, 0, none⟩ = some (.int .i64 i) ∧ w'.cell? ⟨pb, 1, none⟩ = some (.iface 126 (.int .i64 c))
theorem AtF.below {w w1 w2 : World} {c i : Int} {v : Value} (h : AtF w w1 c i v) (hb : Below w1.heap.size w1 w2) : AtF w w2 c i v := by
  obtain ⟨pb, e, h1, h2, c0, c1⟩ := h
  exact ⟨pb, e, h1, Nat.lt_of_lt_of_le h2 hb.size, (hb.cell (p := ⟨pb, 0, none⟩) h2).trans c0, (hb.cell (p := ⟨pb, 1, none⟩) h2).trans c1⟩
theorem AtF.setRow {w w1 : World} {c i : Int} {v : Value} {g : Nat} (h : AtF w w1 c i v) (hg : g < w.heap.size) (cs : Array Value) : AtF w (w1.setRow g cs) c i v := by
  obtain ⟨pb, e, h1, h2, c0, c1⟩ := h
  refine ⟨pb, e, h1, by simpa using h2, ?_, ?_⟩
  · rw [cell_setRow_other _ _ _ _ (by show pb ≠ g; omega)]; exact c0
  · rw [cell_setRow_other _ _ _ _ (by show pb ≠ g; omega)]; exact c1
theorem AtF.low {w0 w w1 : World} {c i : Int} {v : Value} (h : AtF w w1 c i v) (hs : w0.heap.size ≤ w.heap.size) : AtF w0 w1 c i v := by
  obtain ⟨pb, e, h1, h2, c0, c1⟩ := h
  exact ⟨pb, e, Nat.le_trans hs h1, h2, c0, c1⟩
def AtSays (c k : Int) (w : World) (e : Ending) (w' : World) : Prop := ∃ v, e = .returned v ∧ AtF w w' c k v ∧ Below w.heap.size w w'
set_option maxHeartbeats 1000000 in
theorem at_code (k c : Int) (w : World) : Calls Try.prog 52 #[.int .i64 k, .iface 126 (.int .i64 c)] w (AtSays c k w) := by
  go_enter Try.func52, Try.ntmps52
  go_wp2
  go_ret
  exact ⟨_, rfl, ⟨w.heap.size, rfl, Nat.le_refl _, by simp, by simp [go_sem], by simp [go_sem]⟩, by go_grown⟩
/-- No word, and a fault. -/
def PackBad (j : Int) (w : World) (e : Ending) (w' : World) : Prop := ∃ v, e = .returned (.tuple #[.int .u64 0, v]) ∧ AtF w w' 5 j v ∧ Below w.heap.size w w'
/-- No word, and a code. -/
def PackCode (c : Int) (w : World) (e : Ending) (w' : World) : Prop := e = .returned (.tuple #[.int .u64 0, .iface 126 (.int .i64 c)]) ∧ Below w.heap.size w w'
set_option maxRecDepth 100000 in
set_option maxHeartbeats 4000000 in
theorem pack_bad {cs : Array Value} {n : Nat} {s z : Nat → Int} (hL : Lay cs n s) (hS : Steps n s) (A : Option Addr) (cap : Nat) (w : World) (hR : RowI w A n z) (j : Nat) (hj : j < n) (hv : ∀ k, k < j → 0 ≤ z k ∧ z k < 2 ^ (s (k + 1) - s k).toNat) (hb : ¬ (0 ≤ z j ∧ z j < 2 ^ (s (j + 1) - s j).toNat)) :
    Calls Try.prog 71 #[.agg cs, .slice A n cap] w (PackBad j w) := by
  have hn := hS.2.1
  have HSZ := Lib.hid (lay_info hL)
  have HA := Lib.hid (heap_alloc_new w (.cells cs 123))
  have c0 := lay_cell w 0 _ hL.cnt
  have HR := Lib.hid hR
  have HS := Lib.hid hS
  have HV := Lib.hid hv
  have HL := Lib.hid hL
  have HB := Lib.hid hb
  clear hR hS hv hL hb
  go_enter Try.func71, Try.ntmps71
  go_wp2_with fail
  go_loopg [6, 17] n (fun gk x i wr => ∃ (k : Nat) (x' : Int), gk = n - k ∧ k ≤ j ∧ i = .int .i64 k ∧ x = .int .u64 x' ∧ wr.heap[w.heap.size]? = some (.cells cs 123 (0, 0)) ∧ Below w.heap.size w wr)
  case atStart => exact ⟨0, _, by omega, Nat.zero_le _, rfl, rfl, HA.out, by go_grown⟩
  case round =>
    obtain ⟨k, x', rfl, hk, rfl, rfl, hH, hB⟩ := hrel
    have HH := Lib.hid hH
    clear hH
    have hlt : k < n := by omega
    obtain ⟨g, off, rfl, hg, hz, z0, z1⟩ := HR.out k hlt
    have hz' : wr.cell? ⟨g, off + k, none⟩ = some (.int .i64 (z k)) := (hB.cell (p := ⟨g, off + k, none⟩) hg).trans hz
    obtain ⟨s0, s1, s2, s3⟩ := HS.out.2.2 k hlt
    have hl : w.heap.size < wr.heap.size := by
      rcases Nat.lt_or_ge w.heap.size wr.heap.size with h | h
      · exact h
      · have := HH.out; rw [Array.getElem?_eq_none h] at this; cases this
    clear hz
    by_cases hkj : k < j
    · obtain ⟨v0, v1⟩ := HV.out k hkj
      go_wp2_with (refine wpList_load_row rfl 123 _ rfl w.heap.size rfl 123 _ (0, 0) _ HH.out Try.underlying123 rfl HSZ.out ?_)
      refine (fits_yes HL.out k (z k) _ hlt hn s0 s1 s2 s3 v0 v1).mono ?_
      rintro e w1 ⟨rfl, hb1⟩
      have hB1 : Below w.heap.size w w1 := Below.step hB hb1
      have hH1 : w1.heap[w.heap.size]? = some (.cells cs 123 (0, 0)) := (hb1.block w.heap.size hl).trans HH.out
      have d1 : w1.cell? ⟨w.heap.size, 1 + k, none⟩ = some (.int .u8 (s k)) := by rw [cell_of_row _ _ _ _ _ _ hH1]; exact HL.out.at_ k (by omega)
      have HH1 := Lib.hid hH1
      clear hH1 hb1
      go_wp2_with fail
      go_roundg (n - (k + 1))
      case measure => omega
      case rel => exact ⟨k + 1, _, rfl, by omega, by go_num, rfl, HH1.out, hB1⟩
    · obtain rfl : k = j := by omega
      have hF : ∀ W, Calls Try.prog 79 #[.agg cs, .int .i64 k, .int .i64 (z k)] W fun e w' => e = .returned (.bool false) ∧ Below W.heap.size W w' := fun W => by
        by_cases hneg : z k < 0
        · exact fits_neg HL.out k (z k) W hlt hn s0 s1 s2 s3 hneg
        · have hge : 2 ^ (s (k + 1) - s k).toNat ≤ z k := by
            have h := HB.out
            have p1 : 0 ≤ z k := by omega
            rcases Int.lt_or_le (z k) (2 ^ (s (k + 1) - s k).toNat) with h2 | h2
            · exact absurd ⟨p1, h2⟩ h
            · exact h2
          exact fits_big HL.out k (z k) W hlt hn s0 s1 s2 s3 hge z1
      have HF := Lib.hid hF
      clear hF
      go_wp2_with (refine wpList_load_row rfl 123 _ rfl w.heap.size rfl 123 _ (0, 0) _ HH.out Try.underlying123 rfl HSZ.out ?_)
      refine (HF.out _).mono ?_
      rintro e w1 ⟨rfl, hb1⟩
      have hB1 : Below w.heap.size w w1 := Below.step hB hb1
      have hs1 := hB1.size
      clear hb1
      go_wp2_with fail
      refine (at_code _ _ _).mono ?_
      rintro e w2 ⟨v, rfl, hF2, hb2⟩
      have hB2 : Below w.heap.size w w2 := Below.step (by go_grown) hb2
      have HF2 := Lib.hid hF2
      clear hF2
      go_wp2
      go_ret2
      exact ⟨_, rfl, HF2.out.low (by simpa using hs1), hB2⟩
set_option maxRecDepth 100000 in
set_option maxHeartbeats 1000000 in
theorem pack_len {cs : Array Value} {n : Nat} {s : Nat → Int} (hL : Lay cs n s) (A : Option Addr) (m cap : Nat) (w : World) (hm : m ≠ n) :
    Calls Try.prog 71 #[.agg cs, .slice A m cap] w (PackCode 1 w) := by
  have c0 := lay_cell w 0 _ hL.cnt
  have hd : ((m : Int) != (n : Int)) = true := by rw [bne_iff_ne]; omega
  go_enter Try.func71, Try.ntmps71
  go_wp2
  go_ret2
  exact ⟨rfl, by go_grown⟩

set_option maxRecDepth 100000 in
set_option maxHeartbeats 4000000 in
theorem new_ok (A : Option Addr) (n cap : Nat) (ws s : Nat → Int) (w : World) (hR : RowI w A n ws) (hS : Steps n s) (hw : ∀ k, k < n → s (k + 1) = s k + ws k) :
    Calls Try.prog 68 #[.slice A n cap] w fun e w' => ∃ cs, e = .returned (.tuple #[.agg cs, .nilIface]) ∧ Lay cs n (fun k => if k ≤ n then s k else 0) ∧ Below w.heap.size w w' := by
  have hzero := zero70
  have hn := hS.2.1
  have HR := Lib.hid hR
  have HS := Lib.hid hS
  have HW := Lib.hid hw
  clear hR hS hw
  go_enter Try.func68, Try.ntmps68
  go_wp2_with fail
  have hb0 : ((w.alloc (Obj.cells Z0 123)).alloc (Obj.cells Z0 123)).heap[w.heap.size]? = some (.cells Z0 123 (0, 0)) := (Below.heap_alloc _ _ _ (by simp)).trans (heap_alloc_new w _)
  have hb1 : ((w.alloc (Obj.cells Z0 123)).alloc (Obj.cells Z0 123)).heap[w.heap.size + 1]? = some (.cells Z0 123 (0, 0)) := by
    have := heap_alloc_new (w.alloc (Obj.cells Z0 123)) (Obj.cells Z0 123)
    rw [World.size_alloc] at this
    exact this
  go_loopg [5, 10] n (fun gk x i wr => ∃ (k : Nat) (cs : Array Value), gk = n - k ∧ k ≤ n ∧ i = .int .i64 k ∧ x = .int .i64 (s k) ∧ wr.heap[w.heap.size]? = some (.cells Z0 123 (0, 0)) ∧ wr.heap[w.heap.size + 1]? = some (.cells cs 123 (0, 0)) ∧ Lay cs k (fun i => if i ≤ k then s i else 0) ∧ Below w.heap.size w wr)
  case atStart => exact ⟨0, Z0, by omega, Nat.zero_le _, rfl, by rw [HS.out.1], hb0, hb1, lay_zero s HS.out.1, by go_grown⟩
  case round =>
    clear hb0 hb1
    obtain ⟨k, cs, rfl, hk, rfl, rfl, hH0, hH1, hL, hB⟩ := hrel
    have HH0 := Lib.hid hH0
    have HH1 := Lib.hid hH1
    have HL := Lib.hid hL
    have hl1 := blk_lt hH1
    by_cases hlt : k < n
    · obtain ⟨g, off, rfl, hg, hz, z0, z1⟩ := HR.out k hlt
      have hz' : wr.cell? ⟨g, off + k, none⟩ = some (.int .i64 (ws k)) := (hB.cell (p := ⟨g, off + k, none⟩) hg).trans hz
      obtain ⟨s0, s1, s2, s3⟩ := HS.out.2.2 k hlt
      have hwk := HW.out k hlt
      have q1 : 1 ≤ ws k := by omega
      have q2 : ws k ≤ 32 := by omega
      have q3 : s k + ws k ≤ 64 := by omega
      have q4 : s k ≤ 64 := by omega
      have HWK := Lib.hid hwk
      clear hz hwk s1 s2 s3
      have d0 : wr.cell? ⟨w.heap.size + 1, 0, none⟩ = some (.int .i64 k) := by rw [cell_of_row _ _ _ _ _ _ hH1]; exact hL.cnt
      have d1 : wr.cell? ⟨w.heap.size + 1, 1 + (k + 1), none⟩ = some (.int .u8 0) := by rw [cell_of_row _ _ _ _ _ _ hH1, hL.at_ (k + 1) (by omega), if_neg (by omega)]
      have f0 : wr.frozen? ⟨w.heap.size + 1, 0, none⟩ = false := blk_frozen hH1 0
      have f1 : wr.frozen? ⟨w.heap.size + 1, 1 + (k + 1), none⟩ = false := blk_frozen hH1 _
      have e2 : (0 : Int) ≤ (k : Int) + 1 := by omega
      have e3 : (k : Int) + 1 < 65 := by omega
      have e4 : ((k : Int) + 1).toNat = k + 1 := by omega
      have e6 : IntKind.u8.wrap (s k + ws k) = s k + ws k := IntWalk.u8_in _ (by omega)
      clear hH0 hH1 hL
      go_wp2_with fail
      go_roundg (n - (k + 1))
      case measure => omega
      case rel =>
        refine ⟨k + 1, _, rfl, by omega, by go_num, by rw [HWK.out], blk_far (blk_far HH0.out (by show w.heap.size ≠ w.heap.size + 1; omega) _) (by show w.heap.size ≠ w.heap.size + 1; omega) _, blk_set (blk_set HH1.out 0 _) (1 + (k + 1)) _, ?_, (hB.setCell (by show w.heap.size ≤ w.heap.size + 1; omega) _).setCell (by show w.heap.size ≤ w.heap.size + 1; omega) _⟩
        have hls := lay_step (s := s) HL.out (by omega)
        rw [HWK.out] at hls
        exact hls
    · obtain rfl : k = n := by omega
      clear hH0 hH1 hL
      have HSZ := Lib.hid (lay_info HL.out)
      have HZS := Lib.hid (show Z0.size = cs.size from by rw [HL.out.size]; rfl)
      have HON := Lib.hid HL.out.one
      go_wp2_with (first | (refine wpList_load_row rfl 123 _ rfl (w.heap.size + 1) rfl 123 _ (0, 0) _ HH1.out Try.underlying123 rfl HSZ.out ?_) | (refine wpList_store_row rfl 123 _ _ rfl w.heap.size cs rfl rfl 123 Z0 HH0.out HSZ.out HZS.out HON.out ?_))
      refine bodyPost_ret (results_cell_tmp rfl _ _ w.heap.size 123 _ (0, 0) _ rfl (heap_setRow _ _ _ _ _ HH0.out) Try.underlying123 rfl HSZ.out) rfl ?_
      exact ⟨cs, rfl, HL.out, below_setRow hB (Nat.le_refl _) _⟩
end Go.Proofs.Ytmjkhefgpobinaa

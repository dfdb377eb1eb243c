/-
  Contracts of rules in the door seat: New, whichever field is wrong first; ref.Check, ref.Word.
-/
import Derived.Test.YtjkojbaphdlhlaaDoorRows
import Derived.Test.YtjkojbaphdlhlaaDoorKit
import Derived.Test.YtjkojbaphdlhlaaDoorAsF
import Derived.Test.YtjkojbaphdlhlaaDoorAsC
import Derived.Test.YtjkojbaphdlhlaaDoorRcRules
import Derived.Test.YtjkojbaphdlhlaaDoorRcCheck
import Derived.WalkKit
import Derived.ProofKit
import Derived.OpenShut
import Derived.ShutString
import Derived.Below
import Derived.Outline
import Derived.WalkLawsBesides
import Derived.WalkSpells
import Derived.Handy
import Derived.Deep.QuietTactic
import Derived.BigQuiet
import Derived.RegionTactic
import Derived.ChangeAlike
import Derived.Lib.Hide
namespace Go.Proofs.YtjkojbaphdlhlaaDoor.Rc
open Go.ChangeShapes Go.WideShapes Go.ChangeAt Go.RowKit

/-- The number and the name of the first field that is wrong. -/
def Bad (p c n b r f g : Int) (i : Int) (s : ByteArray) : Prop :=
  (¬ (1 ≤ p ∧ p ≤ 6) ∧ i = 0 ∧ s = ⟨#[112, 97, 114, 116, 115]⟩) ∨
  ((1 ≤ p ∧ p ≤ 6) ∧ ¬ (1 ≤ c ∧ c ≤ 4) ∧ i = 1 ∧ s = ⟨#[99, 101, 108, 108, 115]⟩) ∨
  ((1 ≤ p ∧ p ≤ 6) ∧ (1 ≤ c ∧ c ≤ 4) ∧ ¬ (1 ≤ n ∧ n ≤ 3) ∧ i = 2 ∧ s = ⟨#[110, 97, 109, 101, 115]⟩) ∨
  ((1 ≤ p ∧ p ≤ 6) ∧ (1 ≤ c ∧ c ≤ 4) ∧ (1 ≤ n ∧ n ≤ 3) ∧ ¬ (1 ≤ b ∧ b ≤ 4) ∧ i = 3 ∧ s = ⟨#[98, 97, 110, 100, 115]⟩) ∨
  ((1 ≤ p ∧ p ≤ 6) ∧ (1 ≤ c ∧ c ≤ 4) ∧ (1 ≤ n ∧ n ≤ 3) ∧ (1 ≤ b ∧ b ≤ 4) ∧ ¬ (0 ≤ r ∧ r ≤ 4) ∧ i = 4 ∧ s = ⟨#[112, 114, 111, 98, 101, 115]⟩) ∨
  ((1 ≤ p ∧ p ≤ 6) ∧ (1 ≤ c ∧ c ≤ 4) ∧ (1 ≤ n ∧ n ≤ 3) ∧ (1 ≤ b ∧ b ≤ 4) ∧ (0 ≤ r ∧ r ≤ 4) ∧ ¬ (1 ≤ f ∧ f ≤ 4) ∧ i = 5 ∧ s = ⟨#[102, 105, 108, 108, 115]⟩) ∨
  ((1 ≤ p ∧ p ≤ 6) ∧ (1 ≤ c ∧ c ≤ 4) ∧ (1 ≤ n ∧ n ≤ 3) ∧ (1 ≤ b ∧ b ≤ 4) ∧ (0 ≤ r ∧ r ≤ 4) ∧ (1 ≤ f ∧ f ≤ 4) ∧ ¬ (1 ≤ g ∧ g ≤ 15) ∧ i = 6 ∧ s = ⟨#[103, 101, 110, 115]⟩)
/-- A place round a word round the code, as New lays it. -/
def Two (W : World) (b : Nat) (i : Int) (s : ByteArray) : Prop :=
  W.cell? ⟨b, 0, none⟩ = some (.int .i64 i) ∧ b < W.heap.size ∧
  (match W.cell? ⟨b, 1, none⟩ with
   | some (.iface T (.pointer (some ⟨b2, 0, none⟩))) => T = 104 ∧ b2 < W.heap.size ∧ W.cell? ⟨b2, 0, none⟩ = some (.string s) ∧ W.cell? ⟨b2, 1, none⟩ = some (.iface 86 (.int .i64 5))
   | _ => False)
theorem Two.ch {W : World} {b : Nat} {i : Int} {s : ByteArray} (h : Two W b i s) : Ch W 5 [.pl i, .wo s] (.iface 88 (.pointer (some ⟨b, 0, none⟩))) := by
  obtain ⟨h0, h1, h2⟩ := h
  split at h2
  · next hc =>
    obtain ⟨rfl, h3, h4, h5⟩ := h2
    exact ⟨b, _, rfl, h1, h0, hc, _, _, rfl, h3, h4, h5, rfl⟩
  · exact absurd h2 id
/-- No rules, and an error: the field's place, its word, and the code. -/
def NewBad (w : World) (i : Int) (s : ByteArray) (e : Ending) (w' : World) : Prop := ∃ v, e = .returned (.tuple #[.agg #[.int .i64 0, .int .i64 0, .int .i64 0, .int .i64 0, .int .i64 0, .int .i64 0, .int .i64 0], v]) ∧ Ch w' 5 [.pl i, .wo s] v ∧ Below w.heap.size w w'
set_option maxRecDepth 100000 in
set_option maxHeartbeats 8000000 in
theorem new_bad (p c n b r f g i : Int) (s : ByteArray) (w : World) (h : Bad p c n b r f g i s) : Calls Tryd.prog 30 #[.agg #[.int .i64 p, .int .i64 c, .int .i64 n, .int .i64 b, .int .i64 r, .int .i64 f, .int .i64 g]] w (NewBad w i s) := by
  unfold Bad at h
  have H := Lib.hid h
  clear h
  go_enter Tryd.func30, Tryd.ntmps30
  go_wp2_with fail
  go_rounds 8
  all_goals rcases H.out with ⟨_, rfl, rfl⟩ | ⟨_, _, rfl, rfl⟩ | ⟨_, _, _, rfl, rfl⟩ | ⟨_, _, _, _, rfl, rfl⟩ | ⟨_, _, _, _, _, rfl, rfl⟩ | ⟨_, _, _, _, _, _, rfl, rfl⟩ | ⟨_, _, _, _, _, _, _, rfl, rfl⟩
  all_goals first | (exfalso; omega) | skip
  all_goals refine bodyPost_ret (by simp [results, Tryd.results30, go_sem]; first | rfl | exact ⟨rfl, rfl⟩) rfl ⟨_, rfl, Two.ch ?_, ?_⟩
  all_goals first | (simp [Two, go_sem]; done) | go_grown
theorem bad_of (p c n b r f g : Int) (h : ¬ ((1 ≤ p ∧ p ≤ 6) ∧ (1 ≤ c ∧ c ≤ 4) ∧ (1 ≤ n ∧ n ≤ 3) ∧ (1 ≤ b ∧ b ≤ 4) ∧ (0 ≤ r ∧ r ≤ 4) ∧ (1 ≤ f ∧ f ≤ 4) ∧ (1 ≤ g ∧ g ≤ 15))) : ∃ i s, Bad p c n b r f g i s ∧ 0 ≤ i := by
  by_cases hp : 1 ≤ p ∧ p ≤ 6
  · by_cases hc : 1 ≤ c ∧ c ≤ 4
    · by_cases hn : 1 ≤ n ∧ n ≤ 3
      · by_cases hb : 1 ≤ b ∧ b ≤ 4
        · by_cases hr : 0 ≤ r ∧ r ≤ 4
          · by_cases hf : 1 ≤ f ∧ f ≤ 4
            · by_cases hg : 1 ≤ g ∧ g ≤ 15
              · exact absurd ⟨hp, hc, hn, hb, hr, hf, hg⟩ h
              · exact ⟨_, _, .inr (.inr (.inr (.inr (.inr (.inr ⟨hp, hc, hn, hb, hr, hf, hg, rfl, rfl⟩))))), by decide⟩
            · exact ⟨_, _, .inr (.inr (.inr (.inr (.inr (.inl ⟨hp, hc, hn, hb, hr, hf, rfl, rfl⟩))))), by decide⟩
          · exact ⟨_, _, .inr (.inr (.inr (.inr (.inl ⟨hp, hc, hn, hb, hr, rfl, rfl⟩)))), by decide⟩
        · exact ⟨_, _, .inr (.inr (.inr (.inl ⟨hp, hc, hn, hb, rfl, rfl⟩))), by decide⟩
      · exact ⟨_, _, .inr (.inr (.inl ⟨hp, hc, hn, rfl, rfl⟩)), by decide⟩
    · exact ⟨_, _, .inr (.inl ⟨hp, hc, rfl, rfl⟩), by decide⟩
  · exact ⟨_, _, .inl ⟨hp, rfl, rfl⟩, by decide⟩
theorem check_at (p c n b r f g i : Int) (s : ByteArray) (W : World) (h : Bad p c n b r f g i s) : Calls Tryd.prog 31 #[.agg #[.int .i64 p, .int .i64 c, .int .i64 n, .int .i64 b, .int .i64 r, .int .i64 f, .int .i64 g]] W fun e w' => e = .returned (.int .i64 i) ∧ Below W.heap.size W w' := by
  rcases h with ⟨h0, rfl, rfl⟩ | ⟨h0, h1, rfl, rfl⟩ | ⟨h0, h1, h2, rfl, rfl⟩ | ⟨h0, h1, h2, h3, rfl, rfl⟩ | ⟨h0, h1, h2, h3, h4, rfl, rfl⟩ | ⟨h0, h1, h2, h3, h4, h5, rfl, rfl⟩ | ⟨h0, h1, h2, h3, h4, h5, h6, rfl, rfl⟩
  · by_cases a : p < 1
    · exact check_low_0 p c n b r f g W  a
    · exact check_high_0 p c n b r f g W  (by omega)
  · by_cases a : c < 1
    · exact check_low_1 p c n b r f g W h0 a
    · exact check_high_1 p c n b r f g W h0 (by omega)
  · by_cases a : n < 1
    · exact check_low_2 p c n b r f g W h0 h1 a
    · exact check_high_2 p c n b r f g W h0 h1 (by omega)
  · by_cases a : b < 1
    · exact check_low_3 p c n b r f g W h0 h1 h2 a
    · exact check_high_3 p c n b r f g W h0 h1 h2 (by omega)
  · by_cases a : r < 0
    · exact check_low_4 p c n b r f g W h0 h1 h2 h3 a
    · exact check_high_4 p c n b r f g W h0 h1 h2 h3 (by omega)
  · by_cases a : f < 1
    · exact check_low_5 p c n b r f g W h0 h1 h2 h3 h4 a
    · exact check_high_5 p c n b r f g W h0 h1 h2 h3 h4 (by omega)
  · by_cases a : g < 1
    · exact check_low_6 p c n b r f g W h0 h1 h2 h3 h4 h5 a
    · exact check_high_6 p c n b r f g W h0 h1 h2 h3 h4 h5 (by omega)
theorem word_0 (W : World) : Calls Tryd.prog 34 #[.int .i64 0] W fun e w' => e = .returned (.string ⟨#[112, 97, 114, 116, 115]⟩) ∧ Below W.heap.size W w' := by
  go_enter Tryd.func34, Tryd.ntmps34
  go_wp2
  go_ret
  exact ⟨rfl, by go_grown⟩
theorem word_1 (W : World) : Calls Tryd.prog 34 #[.int .i64 1] W fun e w' => e = .returned (.string ⟨#[99, 101, 108, 108, 115]⟩) ∧ Below W.heap.size W w' := by
  go_enter Tryd.func34, Tryd.ntmps34
  go_wp2
  go_ret
  exact ⟨rfl, by go_grown⟩
theorem word_2 (W : World) : Calls Tryd.prog 34 #[.int .i64 2] W fun e w' => e = .returned (.string ⟨#[110, 97, 109, 101, 115]⟩) ∧ Below W.heap.size W w' := by
  go_enter Tryd.func34, Tryd.ntmps34
  go_wp2
  go_ret
  exact ⟨rfl, by go_grown⟩
theorem word_3 (W : World) : Calls Tryd.prog 34 #[.int .i64 3] W fun e w' => e = .returned (.string ⟨#[98, 97, 110, 100, 115]⟩) ∧ Below W.heap.size W w' := by
  go_enter Tryd.func34, Tryd.ntmps34
  go_wp2
  go_ret
  exact ⟨rfl, by go_grown⟩
theorem word_4 (W : World) : Calls Tryd.prog 34 #[.int .i64 4] W fun e w' => e = .returned (.string ⟨#[112, 114, 111, 98, 101, 115]⟩) ∧ Below W.heap.size W w' := by
  go_enter Tryd.func34, Tryd.ntmps34
  go_wp2
  go_ret
  exact ⟨rfl, by go_grown⟩
theorem word_5 (W : World) : Calls Tryd.prog 34 #[.int .i64 5] W fun e w' => e = .returned (.string ⟨#[102, 105, 108, 108, 115]⟩) ∧ Below W.heap.size W w' := by
  go_enter Tryd.func34, Tryd.ntmps34
  go_wp2
  go_ret
  exact ⟨rfl, by go_grown⟩
theorem word_6 (W : World) : Calls Tryd.prog 34 #[.int .i64 6] W fun e w' => e = .returned (.string ⟨#[103, 101, 110, 115]⟩) ∧ Below W.heap.size W w' := by
  go_enter Tryd.func34, Tryd.ntmps34
  go_wp2
  go_ret
  exact ⟨rfl, by go_grown⟩
theorem word_at (p c n b r f g i : Int) (s : ByteArray) (W : World) (h : Bad p c n b r f g i s) : Calls Tryd.prog 34 #[.int .i64 i] W fun e w' => e = .returned (.string s) ∧ Below W.heap.size W w' := by
  rcases h with ⟨_, rfl, rfl⟩ | ⟨_, _, rfl, rfl⟩ | ⟨_, _, _, rfl, rfl⟩ | ⟨_, _, _, _, rfl, rfl⟩ | ⟨_, _, _, _, _, rfl, rfl⟩ | ⟨_, _, _, _, _, _, rfl, rfl⟩ | ⟨_, _, _, _, _, _, _, rfl, rfl⟩
  · exact word_0 W
  · exact word_1 W
  · exact word_2 W
  · exact word_3 W
  · exact word_4 W
  · exact word_5 W
  · exact word_6 W
end Go.Proofs.YtjkojbaphdlhlaaDoor.Rc

/-
  Each turn, the program's and the document's at once.
-/
import Derived.Test.YtgeognijglahfaaRows
import Derived.WalkKit
import Derived.ProofKit
import Derived.OpenShut
import Derived.ShutString
import Derived.Below
import Derived.Outline
import Derived.WalkLawsBesides
import Derived.WalkSpells
import Derived.Handy
import Derived.Deep.QuietTactic
import Derived.BigQuiet
import Derived.RegionTactic
import Derived.ChangeAlike
import Derived.Lib.Hide
import Derived.Test.YtgeognijglahfaaKit
import Derived.Test.YtgeognijglahfaaGive
import Derived.Test.YtgeognijglahfaaTurnA
import Derived.Test.YtgeognijglahfaaTurnB
import Derived.Test.YtgeognijglahfaaIs
namespace Go.Proofs.Ytgeognijglahfaa
open Go.ChangeShapes Go.WideShapes Go.ChangeAt Go.RowKit
set_option maxHeartbeats 1000000 in
theorem take_two (k g l f q m : Int) (b : Bool) (h5 : l ≤ 9223372036854775807) (h6 : m ≤ 9223372036854775807) (h7 : -9223372036854775808 ≤ f) :
    ∃ (K G L F c : Int) (B : Bool) (x : Value), (∀ w, Calls Try.prog 36 #[.agg #[.int .i64 k, .bool b, .int .i64 g, .int .i64 l, .int .i64 f], .int .i64 q, .int .i64 m] w (Gives w K G L F B x)) ∧ (∀ w, Calls Try.prog 37 #[.agg #[.int .i64 k, .bool b, .int .i64 g, .int .i64 l, .int .i64 f], .int .i64 q, .int .i64 m] w (Gives w K G L F B (.int .i64 c))) ∧ ∀ w, Calls Try.prog 12 #[x] w (IsNum w c) := by
  by_cases k1 : k = 1
  · subst k1
    by_cases h1 : q < 1
    · exact ⟨0, 0, 0, 0, 23, false, _, fun w => c_take_low_1 _ _ _ _ _ _ w (by omega), fun w => r_take_low_1 _ _ _ _ _ _ w (by omega), fun w => num_code 23 (by decide) (by decide) w⟩
    by_cases h2 : l < q
    · exact ⟨0, 0, 0, 0, 23, false, _, fun w => c_take_high_1 _ _ _ _ _ _ w (by omega) (by omega), fun w => r_take_high_1 _ _ _ _ _ _ w (by omega) (by omega), fun w => num_code 23 (by decide) (by decide) w⟩
    by_cases h3 : m ≤ f
    · exact ⟨0, 0, 0, 0, 4, false, _, fun w => c_take_limit_1 _ _ _ _ _ _ w (by omega) (by omega) (by omega), fun w => r_take_limit_1 _ _ _ _ _ _ w (by omega) (by omega) (by omega), fun w => num_code 4 (by decide) (by decide) w⟩
    by_cases h4 : l - q = 0
    · exact ⟨5, g, (l - q), (f + 1), 0, false, _, fun w => c_take_full_1 _ _ _ _ _ _ w (by omega) (by omega) (by omega) (by omega) (by omega) (by omega) (by omega), fun w => r_take_full_1 _ _ _ _ _ _ w (by omega) (by omega) (by omega) (by omega) (by omega) (by omega) (by omega), fun w => num_nil w⟩
    by_cases h8 : m ≤ f + 1
    · exact ⟨8, g, (l - q), (f + 1), 0, false, _, fun w => c_take_retire_1 _ _ _ _ _ _ w (by omega) (by omega) (by omega) (by omega) (by omega) (by omega) (by omega) (by omega), fun w => r_take_retire_1 _ _ _ _ _ _ w (by omega) (by omega) (by omega) (by omega) (by omega) (by omega) (by omega) (by omega), fun w => num_nil w⟩
    · exact ⟨1, g, (l - q), (f + 1), 0, b, _, fun w => c_take_on_1 _ _ _ _ _ _ w (by omega) (by omega) (by omega) (by omega) (by omega) (by omega) (by omega) (by omega), fun w => r_take_on_1 _ _ _ _ _ _ w (by omega) (by omega) (by omega) (by omega) (by omega) (by omega) (by omega) (by omega), fun w => num_nil w⟩
  by_cases k2 : k = 2
  · subst k2
    by_cases h1 : q < 1
    · exact ⟨0, 0, 0, 0, 23, false, _, fun w => c_take_low_2 _ _ _ _ _ _ w (by omega), fun w => r_take_low_2 _ _ _ _ _ _ w (by omega), fun w => num_code 23 (by decide) (by decide) w⟩
    by_cases h2 : l < q
    · exact ⟨0, 0, 0, 0, 23, false, _, fun w => c_take_high_2 _ _ _ _ _ _ w (by omega) (by omega), fun w => r_take_high_2 _ _ _ _ _ _ w (by omega) (by omega), fun w => num_code 23 (by decide) (by decide) w⟩
    by_cases h3 : m ≤ f
    · exact ⟨0, 0, 0, 0, 4, false, _, fun w => c_take_limit_2 _ _ _ _ _ _ w (by omega) (by omega) (by omega), fun w => r_take_limit_2 _ _ _ _ _ _ w (by omega) (by omega) (by omega), fun w => num_code 4 (by decide) (by decide) w⟩
    by_cases h4 : l - q = 0
    · exact ⟨5, g, (l - q), (f + 1), 0, false, _, fun w => c_take_full_2 _ _ _ _ _ _ w (by omega) (by omega) (by omega) (by omega) (by omega) (by omega) (by omega), fun w => r_take_full_2 _ _ _ _ _ _ w (by omega) (by omega) (by omega) (by omega) (by omega) (by omega) (by omega), fun w => num_nil w⟩
    by_cases h8 : m ≤ f + 1
    · exact ⟨8, g, (l - q), (f + 1), 0, false, _, fun w => c_take_retire_2 _ _ _ _ _ _ w (by omega) (by omega) (by omega) (by omega) (by omega) (by omega) (by omega) (by omega), fun w => r_take_retire_2 _ _ _ _ _ _ w (by omega) (by omega) (by omega) (by omega) (by omega) (by omega) (by omega) (by omega), fun w => num_nil w⟩
    · exact ⟨2, g, (l - q), (f + 1), 0, b, _, fun w => c_take_on_2 _ _ _ _ _ _ w (by omega) (by omega) (by omega) (by omega) (by omega) (by omega) (by omega) (by omega), fun w => r_take_on_2 _ _ _ _ _ _ w (by omega) (by omega) (by omega) (by omega) (by omega) (by omega) (by omega) (by omega), fun w => num_nil w⟩
  exact ⟨0, 0, 0, 0, 27, false, _, fun w => c_take_busy _ _ _ _ _ _ _ w (by omega) (by omega), fun w => r_take_busy _ _ _ _ _ _ _ w (by omega) (by omega), fun w => num_code 27 (by decide) (by decide) w⟩
set_option maxHeartbeats 1000000 in
theorem release_two (k g l f q m : Int) (b : Bool) (h5 : l ≤ 9223372036854775807) (h6 : m ≤ 9223372036854775807) (h7 : -9223372036854775808 ≤ f) :
    ∃ (K G L F c : Int) (B : Bool) (x : Value), (∀ w, Calls Try.prog 38 #[.agg #[.int .i64 k, .bool b, .int .i64 g, .int .i64 l, .int .i64 f], .int .i64 q, .int .i64 m] w (Gives w K G L F B x)) ∧ (∀ w, Calls Try.prog 39 #[.agg #[.int .i64 k, .bool b, .int .i64 g, .int .i64 l, .int .i64 f], .int .i64 q, .int .i64 m] w (Gives w K G L F B (.int .i64 c))) ∧ ∀ w, Calls Try.prog 12 #[x] w (IsNum w c) := by
  by_cases k3 : k = 3
  · subst k3
    by_cases h1 : q < 0
    · exact ⟨0, 0, 0, 0, 23, false, _, fun w => c_rel_low_3 _ _ _ _ _ _ w (by omega), fun w => r_rel_low_3 _ _ _ _ _ _ w (by omega), fun w => num_code 23 (by decide) (by decide) w⟩
    by_cases h2 : l < q
    · exact ⟨0, 0, 0, 0, 23, false, _, fun w => c_rel_high_3 _ _ _ _ _ _ w (by omega) (by omega), fun w => r_rel_high_3 _ _ _ _ _ _ w (by omega) (by omega), fun w => num_code 23 (by decide) (by decide) w⟩
    by_cases h0 : q = 0
    · obtain rfl : q = 0 := h0
      by_cases hl : l = 0
      · obtain rfl : l = 0 := hl
        exact ⟨5, g, 0, f, 0, false, _, fun w => c_relz_full_3 _ _ _ _ w, fun w => r_relz_full_3 _ _ _ _ w, fun w => num_nil w⟩
      by_cases h8 : m ≤ f
      · exact ⟨8, g, l, f, 0, false, _, fun w => c_relz_retire_3 _ _ _ _ _ w (by omega) (by omega), fun w => r_relz_retire_3 _ _ _ _ _ w (by omega) (by omega), fun w => num_nil w⟩
      cases b
      · exact ⟨1, g, l, f, 0, false, _, fun w => c_relz_on_false_3 _ _ _ _ w (by omega) (by omega), fun w => r_relz_on_false_3 _ _ _ _ w (by omega) (by omega), fun w => num_nil w⟩
      · exact ⟨6, g, l, f, 0, false, _, fun w => c_relz_on_true_3 _ _ _ _ w (by omega) (by omega), fun w => r_relz_on_true_3 _ _ _ _ w (by omega) (by omega), fun w => num_nil w⟩
    by_cases h3 : m ≤ f
    · exact ⟨0, 0, 0, 0, 4, false, _, fun w => c_rel_limit_3 _ _ _ _ _ _ w (by omega) (by omega) (by omega), fun w => r_rel_limit_3 _ _ _ _ _ _ w (by omega) (by omega) (by omega), fun w => num_code 4 (by decide) (by decide) w⟩
    by_cases h4 : l - q = 0
    · exact ⟨5, g, (l - q), (f + 1), 0, false, _, fun w => c_rel_full_3 _ _ _ _ _ _ w (by omega) (by omega) (by omega) (by omega) (by omega) (by omega) (by omega), fun w => r_rel_full_3 _ _ _ _ _ _ w (by omega) (by omega) (by omega) (by omega) (by omega) (by omega) (by omega), fun w => num_nil w⟩
    by_cases h8 : m ≤ f + 1
    · exact ⟨8, g, (l - q), (f + 1), 0, false, _, fun w => c_rel_retire_3 _ _ _ _ _ _ w (by omega) (by omega) (by omega) (by omega) (by omega) (by omega) (by omega) (by omega), fun w => r_rel_retire_3 _ _ _ _ _ _ w (by omega) (by omega) (by omega) (by omega) (by omega) (by omega) (by omega) (by omega), fun w => num_nil w⟩
    cases b
    · exact ⟨1, g, (l - q), (f + 1), 0, false, _, fun w => c_rel_on_false_3 _ _ _ _ _ w (by omega) (by omega) (by omega) (by omega) (by omega) (by omega) (by omega) (by omega), fun w => r_rel_on_false_3 _ _ _ _ _ w (by omega) (by omega) (by omega) (by omega) (by omega) (by omega) (by omega) (by omega), fun w => num_nil w⟩
    · exact ⟨6, g, (l - q), (f + 1), 0, false, _, fun w => c_rel_on_true_3 _ _ _ _ _ w (by omega) (by omega) (by omega) (by omega) (by omega) (by omega) (by omega) (by omega), fun w => r_rel_on_true_3 _ _ _ _ _ w (by omega) (by omega) (by omega) (by omega) (by omega) (by omega) (by omega) (by omega), fun w => num_nil w⟩
  by_cases k4 : k = 4
  · subst k4
    by_cases h1 : q < 0
    · exact ⟨0, 0, 0, 0, 23, false, _, fun w => c_rel_low_4 _ _ _ _ _ _ w (by omega), fun w => r_rel_low_4 _ _ _ _ _ _ w (by omega), fun w => num_code 23 (by decide) (by decide) w⟩
    by_cases h2 : l < q
    · exact ⟨0, 0, 0, 0, 23, false, _, fun w => c_rel_high_4 _ _ _ _ _ _ w (by omega) (by omega), fun w => r_rel_high_4 _ _ _ _ _ _ w (by omega) (by omega), fun w => num_code 23 (by decide) (by decide) w⟩
    by_cases h0 : q = 0
    · obtain rfl : q = 0 := h0
      by_cases hl : l = 0
      · obtain rfl : l = 0 := hl
        exact ⟨5, g, 0, f, 0, false, _, fun w => c_relz_full_4 _ _ _ _ w, fun w => r_relz_full_4 _ _ _ _ w, fun w => num_nil w⟩
      by_cases h8 : m ≤ f
      · exact ⟨8, g, l, f, 0, false, _, fun w => c_relz_retire_4 _ _ _ _ _ w (by omega) (by omega), fun w => r_relz_retire_4 _ _ _ _ _ w (by omega) (by omega), fun w => num_nil w⟩
      cases b
      · exact ⟨2, g, l, f, 0, false, _, fun w => c_relz_on_false_4 _ _ _ _ w (by omega) (by omega), fun w => r_relz_on_false_4 _ _ _ _ w (by omega) (by omega), fun w => num_nil w⟩
      · exact ⟨6, g, l, f, 0, false, _, fun w => c_relz_on_true_4 _ _ _ _ w (by omega) (by omega), fun w => r_relz_on_true_4 _ _ _ _ w (by omega) (by omega), fun w => num_nil w⟩
    by_cases h3 : m ≤ f
    · exact ⟨0, 0, 0, 0, 4, false, _, fun w => c_rel_limit_4 _ _ _ _ _ _ w (by omega) (by omega) (by omega), fun w => r_rel_limit_4 _ _ _ _ _ _ w (by omega) (by omega) (by omega), fun w => num_code 4 (by decide) (by decide) w⟩
    by_cases h4 : l - q = 0
    · exact ⟨5, g, (l - q), (f + 1), 0, false, _, fun w => c_rel_full_4 _ _ _ _ _ _ w (by omega) (by omega) (by omega) (by omega) (by omega) (by omega) (by omega), fun w => r_rel_full_4 _ _ _ _ _ _ w (by omega) (by omega) (by omega) (by omega) (by omega) (by omega) (by omega), fun w => num_nil w⟩
    by_cases h8 : m ≤ f + 1
    · exact ⟨8, g, (l - q), (f + 1), 0, false, _, fun w => c_rel_retire_4 _ _ _ _ _ _ w (by omega) (by omega) (by omega) (by omega) (by omega) (by omega) (by omega) (by omega), fun w => r_rel_retire_4 _ _ _ _ _ _ w (by omega) (by omega) (by omega) (by omega) (by omega) (by omega) (by omega) (by omega), fun w => num_nil w⟩
    cases b
    · exact ⟨2, g, (l - q), (f + 1), 0, false, _, fun w => c_rel_on_false_4 _ _ _ _ _ w (by omega) (by omega) (by omega) (by omega) (by omega) (by omega) (by omega) (by omega), fun w => r_rel_on_false_4 _ _ _ _ _ w (by omega) (by omega) (by omega) (by omega) (by omega) (by omega) (by omega) (by omega), fun w => num_nil w⟩
    · exact ⟨6, g, (l - q), (f + 1), 0, false, _, fun w => c_rel_on_true_4 _ _ _ _ _ w (by omega) (by omega) (by omega) (by omega) (by omega) (by omega) (by omega) (by omega), fun w => r_rel_on_true_4 _ _ _ _ _ w (by omega) (by omega) (by omega) (by omega) (by omega) (by omega) (by omega) (by omega), fun w => num_nil w⟩
  exact ⟨0, 0, 0, 0, 1, false, _, fun w => c_rel_arg _ _ _ _ _ _ _ w (by omega) (by omega), fun w => r_rel_arg _ _ _ _ _ _ _ w (by omega) (by omega), fun w => num_code 1 (by decide) (by decide) w⟩
set_option maxHeartbeats 1000000 in
theorem cancel_two (k g l f : Int) (b : Bool)  :
    ∃ (K G L F c : Int) (B : Bool) (x : Value), (∀ w, Calls Try.prog 40 #[.agg #[.int .i64 k, .bool b, .int .i64 g, .int .i64 l, .int .i64 f]] w (Gives w K G L F B x)) ∧ (∀ w, Calls Try.prog 41 #[.agg #[.int .i64 k, .bool b, .int .i64 g, .int .i64 l, .int .i64 f]] w (Gives w K G L F B (.int .i64 c))) ∧ ∀ w, Calls Try.prog 12 #[x] w (IsNum w c) := by
  by_cases k1 : k = 1
  · subst k1
    exact ⟨6, g, l, f, 0, b, _, fun w => c_can_1 _ _ _ _ w, fun w => r_can_1 _ _ _ _ w, fun w => num_nil w⟩
  by_cases k2 : k = 2
  · subst k2
    exact ⟨6, g, l, f, 0, b, _, fun w => c_can_2 _ _ _ _ w, fun w => r_can_2 _ _ _ _ w, fun w => num_nil w⟩
  by_cases k3 : k = 3
  · subst k3
    exact ⟨3, g, l, f, 0, true, _, fun w => c_can_3 _ _ _ _ w, fun w => r_can_3 _ _ _ _ w, fun w => num_nil w⟩
  by_cases k4 : k = 4
  · subst k4
    exact ⟨4, g, l, f, 0, true, _, fun w => c_can_4 _ _ _ _ w, fun w => r_can_4 _ _ _ _ w, fun w => num_nil w⟩
  exact ⟨0, 0, 0, 0, 29, false, _, fun w => c_can_gone _ _ _ _ _ w (by omega) (by omega) (by omega) (by omega), fun w => r_can_gone _ _ _ _ _ w (by omega) (by omega) (by omega) (by omega), fun w => num_code 29 (by decide) (by decide) w⟩
set_option maxHeartbeats 1000000 in
theorem begin_two (k g l f q m : Int) (b : Bool) (h5 : g < 1099511627776) (h6 : -1099511627776 < g) :
    ∃ (K G L F c : Int) (B : Bool) (x : Value), (∀ w, Calls Try.prog 42 #[.agg #[.int .i64 k, .bool b, .int .i64 g, .int .i64 l, .int .i64 f], .int .i64 q, .int .i64 m] w (Gives w K G L F B x)) ∧ (∀ w, Calls Try.prog 43 #[.agg #[.int .i64 k, .bool b, .int .i64 g, .int .i64 l, .int .i64 f], .int .i64 q, .int .i64 m] w (Gives w K G L F B (.int .i64 c))) ∧ ∀ w, Calls Try.prog 12 #[x] w (IsNum w c) := by
  by_cases k1 : k = 1
  · subst k1
    exact ⟨0, 0, 0, 0, 27, false, _, fun w => c_beg_busy_1 _ _ _ _ _ _ w, fun w => r_beg_busy_1 _ _ _ _ _ _ w, fun w => num_code 27 (by decide) (by decide) w⟩
  by_cases k2 : k = 2
  · subst k2
    exact ⟨0, 0, 0, 0, 27, false, _, fun w => c_beg_busy_2 _ _ _ _ _ _ w, fun w => r_beg_busy_2 _ _ _ _ _ _ w, fun w => num_code 27 (by decide) (by decide) w⟩
  by_cases k3 : k = 3
  · subst k3
    exact ⟨0, 0, 0, 0, 27, false, _, fun w => c_beg_busy_3 _ _ _ _ _ _ w, fun w => r_beg_busy_3 _ _ _ _ _ _ w, fun w => num_code 27 (by decide) (by decide) w⟩
  by_cases k4 : k = 4
  · subst k4
    exact ⟨0, 0, 0, 0, 27, false, _, fun w => c_beg_busy_4 _ _ _ _ _ _ w, fun w => r_beg_busy_4 _ _ _ _ _ _ w, fun w => num_code 27 (by decide) (by decide) w⟩
  by_cases h : m ≤ g
  · exact ⟨0, 0, 0, 0, 28, false, _, fun w => c_beg_full _ _ _ _ _ _ _ w (by omega) (by omega) (by omega) (by omega) (by omega), fun w => r_beg_full _ _ _ _ _ _ _ w (by omega) (by omega) (by omega) (by omega) (by omega), fun w => num_code 28 (by decide) (by decide) w⟩
  by_cases h1 : q < 1
  · exact ⟨0, 0, 0, 0, 23, false, _, fun w => c_beg_low _ _ _ _ _ _ _ w (by omega) (by omega) (by omega) (by omega) (by omega) (by omega), fun w => r_beg_low _ _ _ _ _ _ _ w (by omega) (by omega) (by omega) (by omega) (by omega) (by omega), fun w => num_code 23 (by decide) (by decide) w⟩
  by_cases h2 : 9999 < q
  · exact ⟨0, 0, 0, 0, 23, false, _, fun w => c_beg_high _ _ _ _ _ _ _ w (by omega) (by omega) (by omega) (by omega) (by omega) (by omega) (by omega), fun w => r_beg_high _ _ _ _ _ _ _ w (by omega) (by omega) (by omega) (by omega) (by omega) (by omega) (by omega), fun w => num_code 23 (by decide) (by decide) w⟩
  · exact ⟨1, (g + 1), q, 0, 0, false, _, fun w => c_beg_ok _ _ _ _ _ _ _ w (by omega) (by omega) (by omega) (by omega) (by omega) (by omega) (by omega) (by omega) (by omega), fun w => r_beg_ok _ _ _ _ _ _ _ w (by omega) (by omega) (by omega) (by omega) (by omega) (by omega) (by omega) (by omega) (by omega), fun w => num_nil w⟩
end Go.Proofs.Ytgeognijglahfaa

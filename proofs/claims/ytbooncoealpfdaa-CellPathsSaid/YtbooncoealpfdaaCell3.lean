/-
  More contracts of cell for CellPaths: Begin, Cancel, Expire, Promote; what Take and Release come to.
-/
import Derived.Test.YtbooncoealpfdaaRows
import Derived.WalkKit
import Derived.ProofKit
import Derived.OpenShut
import Derived.ShutString
import Derived.Below
import Derived.Outline
import Derived.WalkLawsBesides
import Derived.WalkSpells
import Derived.Handy
import Derived.Deep.QuietTactic
import Derived.BigQuiet
import Derived.RegionTactic
import Derived.ChangeAlike
import Derived.Lib.Hide
import Derived.Test.YtbooncoealpfdaaKit
import Derived.Test.YtbooncoealpfdaaCell2
namespace Go.Proofs.Ytbooncoealpfdaa
open Go.ChangeShapes Go.WideShapes Go.ChangeAt Go.RowKit
set_option maxHeartbeats 400000 in
theorem cancel_1 (g l f : Int) (b : Bool) (w : World) : Calls Try.prog 29 #[.agg #[.int .i64 1, .bool b, .int .i64 g, .int .i64 l, .int .i64 f]] w (Got w 6 g l f b) := by
  go_enter Try.func29, Try.ntmps29
  go_wp2
  refine bodyPost_ret (by simp [results, Try.results29, go_sem]; try rfl) rfl ⟨rfl, ?_⟩
  go_grown
set_option maxHeartbeats 400000 in
theorem cancel_2 (g l f : Int) (b : Bool) (w : World) : Calls Try.prog 29 #[.agg #[.int .i64 2, .bool b, .int .i64 g, .int .i64 l, .int .i64 f]] w (Got w 6 g l f b) := by
  go_enter Try.func29, Try.ntmps29
  go_wp2
  refine bodyPost_ret (by simp [results, Try.results29, go_sem]; try rfl) rfl ⟨rfl, ?_⟩
  go_grown
set_option maxHeartbeats 400000 in
theorem cancel_3 (g l f : Int) (b : Bool) (w : World) : Calls Try.prog 29 #[.agg #[.int .i64 3, .bool b, .int .i64 g, .int .i64 l, .int .i64 f]] w (Got w 3 g l f true) := by
  go_enter Try.func29, Try.ntmps29
  go_wp2
  refine bodyPost_ret (by simp [results, Try.results29, go_sem]; try rfl) rfl ⟨rfl, ?_⟩
  go_grown
set_option maxHeartbeats 400000 in
theorem cancel_4 (g l f : Int) (b : Bool) (w : World) : Calls Try.prog 29 #[.agg #[.int .i64 4, .bool b, .int .i64 g, .int .i64 l, .int .i64 f]] w (Got w 4 g l f true) := by
  go_enter Try.func29, Try.ntmps29
  go_wp2
  refine bodyPost_ret (by simp [results, Try.results29, go_sem]; try rfl) rfl ⟨rfl, ?_⟩
  go_grown
set_option maxHeartbeats 400000 in
theorem expire_1 (g l f : Int) (b : Bool) (w : World) : Calls Try.prog 30 #[.agg #[.int .i64 1, .bool b, .int .i64 g, .int .i64 l, .int .i64 f]] w (Got w 7 g l f b) := by
  go_enter Try.func30, Try.ntmps30
  go_wp2
  refine bodyPost_ret (by simp [results, Try.results30, go_sem]; try rfl) rfl ⟨rfl, ?_⟩
  go_grown
set_option maxHeartbeats 400000 in
theorem expire_2 (g l f : Int) (b : Bool) (w : World) : Calls Try.prog 30 #[.agg #[.int .i64 2, .bool b, .int .i64 g, .int .i64 l, .int .i64 f]] w (Got w 7 g l f b) := by
  go_enter Try.func30, Try.ntmps30
  go_wp2
  refine bodyPost_ret (by simp [results, Try.results30, go_sem]; try rfl) rfl ⟨rfl, ?_⟩
  go_grown
set_option maxHeartbeats 400000 in
theorem promote_1 (g l f : Int) (b : Bool) (w : World) : Calls Try.prog 31 #[.agg #[.int .i64 1, .bool b, .int .i64 g, .int .i64 l, .int .i64 f]] w (Got w 2 g l f b) := by
  go_enter Try.func31, Try.ntmps31
  go_wp2
  refine bodyPost_ret (by simp [results, Try.results31, go_sem]; try rfl) rfl ⟨rfl, ?_⟩
  go_grown
set_option maxHeartbeats 400000 in
theorem begin_ok (q : Int) (h1 : 1 ≤ q) (h2 : q ≤ 9999) (w : World) : Calls Try.prog 37 #[.agg #[.int .i64 0, .bool false, .int .i64 0, .int .i64 0, .int .i64 0], .int .i64 q, .int .i64 9] w (Got w 1 1 q 0 false) := by
  go_enter Try.func37, Try.ntmps37
  go_wp2
  refine bodyPost_ret (by simp [results, Try.results37, go_sem]; try rfl) rfl ⟨rfl, ?_⟩
  go_grown
theorem takeC (k l f q m : Int) (b : Bool) (hk1 : 1 ≤ k) (hk8 : k ≤ 8) (hl : 0 ≤ l) (hl5 : l ≤ 9999) (hf : 0 ≤ f) (hfm : f ≤ m) (hm : m ≤ 99) : (∃ c : Int, ∀ W, Calls Try.prog 27 #[.agg #[.int .i64 k, .bool b, .int .i64 1, .int .i64 l, .int .i64 f], .int .i64 q, .int .i64 m] W (Bad W c)) ∨ (∃ (k' f' : Int) (b' : Bool), 1 ≤ k' ∧ k' ≤ 8 ∧ k ≤ 4 ∧ 0 ≤ q ∧ q ≤ l ∧ 0 ≤ f' ∧ f' ≤ m ∧ ∀ W, Calls Try.prog 27 #[.agg #[.int .i64 k, .bool b, .int .i64 1, .int .i64 l, .int .i64 f], .int .i64 q, .int .i64 m] W (Got W k' 1 (l - q) f' b')) := by
  by_cases b1 : k ≠ 1 ∧ k ≠ 2
  · exact .inl ⟨27, fun W => take_busy _ _ _ _ _ _ _ W b1.1 b1.2⟩
  · by_cases e : k = 1
    · subst e
      by_cases c0 : q < 1
      · exact .inl ⟨23, fun W => take_qty_low_1 _ _ _ _ _ _ W c0⟩
      by_cases c1 : l < q
      · exact .inl ⟨23, fun W => take_qty_high_1 _ _ _ _ _ _ W (by omega) c1⟩
      by_cases c4 : m ≤ f
      · exact .inl ⟨4, fun W => take_limit_1 _ _ _ _ _ _ W (by omega) (by omega) c4⟩
      by_cases h0 : l - q = 0
      · exact .inr ⟨5, f + 1, false, by decide, by decide, by decide, by omega, by omega, by omega, by omega, fun W => take_full_1 1 l f q m b W (by omega) (by omega) (by omega) (by omega) (by omega) (by omega) h0⟩
      by_cases h3 : m ≤ f + 1
      · exact .inr ⟨8, f + 1, false, by decide, by decide, by decide, by omega, by omega, by omega, by omega, fun W => take_retire_1 1 l f q m b W (by omega) (by omega) (by omega) (by omega) (by omega) (by omega) h0 h3⟩
      exact .inr ⟨1, f + 1, b, by decide, by decide, by decide, by omega, by omega, by omega, by omega, fun W => take_on_1 1 l f q m b W (by omega) (by omega) (by omega) (by omega) (by omega) (by omega) h0 (by omega)⟩
    · have e : k = 2 := by omega
      subst e
      by_cases c0 : q < 1
      · exact .inl ⟨23, fun W => take_qty_low_2 _ _ _ _ _ _ W c0⟩
      by_cases c1 : l < q
      · exact .inl ⟨23, fun W => take_qty_high_2 _ _ _ _ _ _ W (by omega) c1⟩
      by_cases c4 : m ≤ f
      · exact .inl ⟨4, fun W => take_limit_2 _ _ _ _ _ _ W (by omega) (by omega) c4⟩
      by_cases h0 : l - q = 0
      · exact .inr ⟨5, f + 1, false, by decide, by decide, by decide, by omega, by omega, by omega, by omega, fun W => take_full_2 1 l f q m b W (by omega) (by omega) (by omega) (by omega) (by omega) (by omega) h0⟩
      by_cases h3 : m ≤ f + 1
      · exact .inr ⟨8, f + 1, false, by decide, by decide, by decide, by omega, by omega, by omega, by omega, fun W => take_retire_2 1 l f q m b W (by omega) (by omega) (by omega) (by omega) (by omega) (by omega) h0 h3⟩
      exact .inr ⟨2, f + 1, b, by decide, by decide, by decide, by omega, by omega, by omega, by omega, fun W => take_on_2 1 l f q m b W (by omega) (by omega) (by omega) (by omega) (by omega) (by omega) h0 (by omega)⟩
theorem relC (k l f q m : Int) (b : Bool) (hk1 : 1 ≤ k) (hk8 : k ≤ 8) (hl : 0 ≤ l) (hl5 : l ≤ 9999) (hf : 0 ≤ f) (hfm : f ≤ m) (hm : m ≤ 99) : (∃ c : Int, ∀ W, Calls Try.prog 28 #[.agg #[.int .i64 k, .bool b, .int .i64 1, .int .i64 l, .int .i64 f], .int .i64 q, .int .i64 m] W (Bad W c)) ∨ (∃ (k' f' : Int) (b' : Bool), 1 ≤ k' ∧ k' ≤ 8 ∧ k ≤ 4 ∧ 0 ≤ q ∧ q ≤ l ∧ 0 ≤ f' ∧ f' ≤ m ∧ ∀ W, Calls Try.prog 28 #[.agg #[.int .i64 k, .bool b, .int .i64 1, .int .i64 l, .int .i64 f], .int .i64 q, .int .i64 m] W (Got W k' 1 (l - q) f' b')) := by
  by_cases b1 : k ≠ 3 ∧ k ≠ 4
  · exact .inl ⟨1, fun W => release_arg _ _ _ _ _ _ _ W b1.1 b1.2⟩
  · by_cases e : k = 3
    · subst e
      by_cases c0 : q < 0
      · exact .inl ⟨23, fun W => rel_low_3 _ _ _ _ _ _ W c0⟩
      by_cases c1 : l < q
      · exact .inl ⟨23, fun W => rel_high_3 _ _ _ _ _ _ W (by omega) c1⟩
      by_cases c2 : q = 0
      · subst c2
        rw [Int.sub_zero]
        by_cases h0 : l = 0
        · subst h0
          exact .inr ⟨5, f, false, by decide, by decide, by decide, by omega, by omega, by omega, by omega, fun W => relz_full_3 1 f m b W⟩
        by_cases h3 : m ≤ f
        · exact .inr ⟨8, f, false, by decide, by decide, by decide, by omega, by omega, by omega, by omega, fun W => relz_retire_3 1 l f m b W (by omega) h3⟩
        cases b
        · exact .inr ⟨1, f, false, by decide, by decide, by decide, by omega, by omega, by omega, by omega, fun W => relz_on_false_3 1 l f m W (by omega) (by omega)⟩
        · exact .inr ⟨6, f, false, by decide, by decide, by decide, by omega, by omega, by omega, by omega, fun W => relz_on_true_3 1 l f m W (by omega) (by omega)⟩
      by_cases c4 : m ≤ f
      · exact .inl ⟨4, fun W => rel_limit_3 _ _ _ _ _ _ W (by omega) (by omega) c4⟩
      by_cases h0 : l - q = 0
      · exact .inr ⟨5, f + 1, false, by decide, by decide, by decide, by omega, by omega, by omega, by omega, fun W => rel_full_3 1 l f q m b W (by omega) (by omega) (by omega) (by omega) (by omega) (by omega) h0⟩
      by_cases h3 : m ≤ f + 1
      · exact .inr ⟨8, f + 1, false, by decide, by decide, by decide, by omega, by omega, by omega, by omega, fun W => rel_retire_3 1 l f q m b W (by omega) (by omega) (by omega) (by omega) (by omega) (by omega) h0 h3⟩
      cases b
      · exact .inr ⟨1, f + 1, false, by decide, by decide, by decide, by omega, by omega, by omega, by omega, fun W => rel_on_false_3 1 l f q m W (by omega) (by omega) (by omega) (by omega) (by omega) (by omega) h0 (by omega)⟩
      · exact .inr ⟨6, f + 1, false, by decide, by decide, by decide, by omega, by omega, by omega, by omega, fun W => rel_on_true_3 1 l f q m W (by omega) (by omega) (by omega) (by omega) (by omega) (by omega) h0 (by omega)⟩
    · have e : k = 4 := by omega
      subst e
      by_cases c0 : q < 0
      · exact .inl ⟨23, fun W => rel_low_4 _ _ _ _ _ _ W c0⟩
      by_cases c1 : l < q
      · exact .inl ⟨23, fun W => rel_high_4 _ _ _ _ _ _ W (by omega) c1⟩
      by_cases c2 : q = 0
      · subst c2
        rw [Int.sub_zero]
        by_cases h0 : l = 0
        · subst h0
          exact .inr ⟨5, f, false, by decide, by decide, by decide, by omega, by omega, by omega, by omega, fun W => relz_full_4 1 f m b W⟩
        by_cases h3 : m ≤ f
        · exact .inr ⟨8, f, false, by decide, by decide, by decide, by omega, by omega, by omega, by omega, fun W => relz_retire_4 1 l f m b W (by omega) h3⟩
        cases b
        · exact .inr ⟨2, f, false, by decide, by decide, by decide, by omega, by omega, by omega, by omega, fun W => relz_on_false_4 1 l f m W (by omega) (by omega)⟩
        · exact .inr ⟨6, f, false, by decide, by decide, by decide, by omega, by omega, by omega, by omega, fun W => relz_on_true_4 1 l f m W (by omega) (by omega)⟩
      by_cases c4 : m ≤ f
      · exact .inl ⟨4, fun W => rel_limit_4 _ _ _ _ _ _ W (by omega) (by omega) c4⟩
      by_cases h0 : l - q = 0
      · exact .inr ⟨5, f + 1, false, by decide, by decide, by decide, by omega, by omega, by omega, by omega, fun W => rel_full_4 1 l f q m b W (by omega) (by omega) (by omega) (by omega) (by omega) (by omega) h0⟩
      by_cases h3 : m ≤ f + 1
      · exact .inr ⟨8, f + 1, false, by decide, by decide, by decide, by omega, by omega, by omega, by omega, fun W => rel_retire_4 1 l f q m b W (by omega) (by omega) (by omega) (by omega) (by omega) (by omega) h0 h3⟩
      cases b
      · exact .inr ⟨2, f + 1, false, by decide, by decide, by decide, by omega, by omega, by omega, by omega, fun W => rel_on_false_4 1 l f q m W (by omega) (by omega) (by omega) (by omega) (by omega) (by omega) h0 (by omega)⟩
      · exact .inr ⟨6, f + 1, false, by decide, by decide, by decide, by omega, by omega, by omega, by omega, fun W => rel_on_true_4 1 l f q m W (by omega) (by omega) (by omega) (by omega) (by omega) (by omega) h0 (by omega)⟩
theorem canC (k l f m : Int) (b : Bool) (hk1 : 1 ≤ k) (hk8 : k ≤ 8) (hl : 0 ≤ l) (hl5 : l ≤ 9999) (hf : 0 ≤ f) (hfm : f ≤ m) (hm : m ≤ 99) : (∃ c : Int, ∀ W, Calls Try.prog 29 #[.agg #[.int .i64 k, .bool b, .int .i64 1, .int .i64 l, .int .i64 f]] W (Bad W c)) ∨ (∃ (k' f' : Int) (b' : Bool), 1 ≤ k' ∧ k' ≤ 8 ∧ k ≤ 4 ∧ 0 ≤ f' ∧ f' ≤ m ∧ ∀ W, Calls Try.prog 29 #[.agg #[.int .i64 k, .bool b, .int .i64 1, .int .i64 l, .int .i64 f]] W (Got W k' 1 (l) f' b')) := by
  by_cases e1 : k = 1
  · subst e1; exact .inr ⟨6, f, b, by decide, by decide, by decide, by omega, by omega, fun W => cancel_1 1 l f b W⟩
  by_cases e2 : k = 2
  · subst e2; exact .inr ⟨6, f, b, by decide, by decide, by decide, by omega, by omega, fun W => cancel_2 1 l f b W⟩
  by_cases e3 : k = 3
  · subst e3; exact .inr ⟨3, f, true, by decide, by decide, by decide, by omega, by omega, fun W => cancel_3 1 l f b W⟩
  by_cases e4 : k = 4
  · subst e4; exact .inr ⟨4, f, true, by decide, by decide, by decide, by omega, by omega, fun W => cancel_4 1 l f b W⟩
  exact .inl ⟨29, fun W => cancel_gone _ _ _ _ _ _ e1 e2 e3 e4⟩
theorem expC (k l f m : Int) (b : Bool) (hk1 : 1 ≤ k) (hk8 : k ≤ 8) (hl : 0 ≤ l) (hl5 : l ≤ 9999) (hf : 0 ≤ f) (hfm : f ≤ m) (hm : m ≤ 99) : (∃ c : Int, ∀ W, Calls Try.prog 30 #[.agg #[.int .i64 k, .bool b, .int .i64 1, .int .i64 l, .int .i64 f]] W (Bad W c)) ∨ (∃ (k' f' : Int) (b' : Bool), 1 ≤ k' ∧ k' ≤ 8 ∧ k ≤ 4 ∧ 0 ≤ f' ∧ f' ≤ m ∧ ∀ W, Calls Try.prog 30 #[.agg #[.int .i64 k, .bool b, .int .i64 1, .int .i64 l, .int .i64 f]] W (Got W k' 1 (l) f' b')) := by
  by_cases e1 : k = 1
  · subst e1; exact .inr ⟨7, f, b, by decide, by decide, by decide, by omega, by omega, fun W => expire_1 1 l f b W⟩
  by_cases e2 : k = 2
  · subst e2; exact .inr ⟨7, f, b, by decide, by decide, by decide, by omega, by omega, fun W => expire_2 1 l f b W⟩
  exact .inl ⟨27, fun W => expire_busy _ _ _ _ _ _ e1 e2⟩
theorem proC (k l f m : Int) (b : Bool) (hk1 : 1 ≤ k) (hk8 : k ≤ 8) (hl : 0 ≤ l) (hl5 : l ≤ 9999) (hf : 0 ≤ f) (hfm : f ≤ m) (hm : m ≤ 99) : (∃ c : Int, ∀ W, Calls Try.prog 31 #[.agg #[.int .i64 k, .bool b, .int .i64 1, .int .i64 l, .int .i64 f]] W (Bad W c)) ∨ (∃ (k' f' : Int) (b' : Bool), 1 ≤ k' ∧ k' ≤ 8 ∧ k ≤ 4 ∧ 0 ≤ f' ∧ f' ≤ m ∧ ∀ W, Calls Try.prog 31 #[.agg #[.int .i64 k, .bool b, .int .i64 1, .int .i64 l, .int .i64 f]] W (Got W k' 1 (l) f' b')) := by
  by_cases e1 : k = 1
  · subst e1; exact .inr ⟨2, f, b, by decide, by decide, by decide, by omega, by omega, fun W => promote_1 1 l f b W⟩
  exact .inl ⟨29, fun W => promote_gone _ _ _ _ _ _ e1⟩
theorem holdC (k l f : Int) (b : Bool) (hk1 : 1 ≤ k) (hk8 : k ≤ 8) : ∃ k' : Int, 1 ≤ k' ∧ k' ≤ 8 ∧ (4 < k → k' = k) ∧ ∀ W, Calls Try.prog 33 #[.agg #[.int .i64 k, .bool b, .int .i64 1, .int .i64 l, .int .i64 f]] W (St W k' 1 l f b) := by
  by_cases e1 : k = 1
  · subst e1; exact ⟨3, by decide, by decide, by omega, fun W => hold_1 1 l f b W⟩
  by_cases e2 : k = 2
  · subst e2; exact ⟨4, by decide, by decide, by omega, fun W => hold_2 1 l f b W⟩
  exact ⟨k, hk1, hk8, fun _ => rfl, fun W => hold_same _ _ _ _ _ W e1 e2⟩
end Go.Proofs.Ytbooncoealpfdaa

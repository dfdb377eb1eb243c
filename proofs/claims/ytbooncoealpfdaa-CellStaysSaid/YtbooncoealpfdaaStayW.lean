/-
  The walk of CellStays.
-/
import Derived.Test.YtbooncoealpfdaaRows
import Derived.WalkKit
import Derived.ProofKit
import Derived.OpenShut
import Derived.ShutString
import Derived.Below
import Derived.Outline
import Derived.WalkLawsBesides
import Derived.WalkSpells
import Derived.Handy
import Derived.Deep.QuietTactic
import Derived.BigQuiet
import Derived.RegionTactic
import Derived.ChangeAlike
import Derived.Lib.Hide
import Derived.Deep.RegionHeld3
import Derived.Test.YtbooncoealpfdaaKit
import Derived.Test.YtbooncoealpfdaaCell2
import Derived.Test.YtbooncoealpfdaaStayO
import Derived.Test.YtbooncoealpfdaaStayN
import Derived.Test.YtbooncoealpfdaaStaybb
namespace Go.Proofs.Ytbooncoealpfdaa.cellStays
open Go.ChangeShapes Go.WideShapes Go.ChangeAt Go.RowKit

theorem relz_any_3 (g l f m : Int) (b : Bool) (h : 0 ≤ l) : ∃ (k2 f2 : Int) (b2 : Bool), k2 ≠ 3 ∧ k2 ≠ 4 ∧ ∀ W, Calls Try.prog 28 #[.agg #[.int .i64 3, .bool b, .int .i64 g, .int .i64 l, .int .i64 f], .int .i64 0, .int .i64 m] W (Got W k2 g l f2 b2) := by
  by_cases h0 : l = 0
  · subst h0
    exact ⟨5, f, false, by decide, by decide, fun W => relz_full_3 g f m b W⟩
  by_cases h1 : m ≤ f
  · exact ⟨8, f, false, by decide, by decide, fun W => relz_retire_3 g l f m b W (by omega) h1⟩
  cases b
  · exact ⟨1, f, false, by decide, by decide, fun W => relz_on_false_3 g l f m W (by omega) (by omega)⟩
  · exact ⟨6, f, false, by decide, by decide, fun W => relz_on_true_3 g l f m W (by omega) (by omega)⟩
theorem rel_any_3 (g l f q m : Int) (b : Bool) (h : 1 ≤ q) (h1 : q ≤ l) (h2 : f < m) (h5 : l ≤ 9223372036854775807) (h6 : m ≤ 9223372036854775807) (h7 : -9223372036854775808 ≤ f) :
    ∃ (k2 f2 : Int) (b2 : Bool), k2 ≠ 3 ∧ k2 ≠ 4 ∧ ∀ W, Calls Try.prog 28 #[.agg #[.int .i64 3, .bool b, .int .i64 g, .int .i64 l, .int .i64 f], .int .i64 q, .int .i64 m] W (Got W k2 g (l - q) f2 b2) := by
  by_cases h0 : l - q = 0
  · exact ⟨5, f + 1, false, by decide, by decide, fun W => rel_full_3 g l f q m b W h h1 h2 h5 h6 h7 h0⟩
  by_cases h3 : m ≤ f + 1
  · exact ⟨8, f + 1, false, by decide, by decide, fun W => rel_retire_3 g l f q m b W h h1 h2 h5 h6 h7 h0 h3⟩
  cases b
  · exact ⟨1, f + 1, false, by decide, by decide, fun W => rel_on_false_3 g l f q m W h h1 h2 h5 h6 h7 h0 (by omega)⟩
  · exact ⟨6, f + 1, false, by decide, by decide, fun W => rel_on_true_3 g l f q m W h h1 h2 h5 h6 h7 h0 (by omega)⟩
theorem take_any_1 (g l f q m : Int) (b : Bool) (h : 1 ≤ q) (h1 : q ≤ l) (h2 : f < m) (h5 : l ≤ 9223372036854775807) (h6 : m ≤ 9223372036854775807) (h7 : -9223372036854775808 ≤ f) :
    ∃ (k1 : Int) (b1 : Bool), k1 ≠ 3 ∧ k1 ≠ 4 ∧ ∀ W, Calls Try.prog 27 #[.agg #[.int .i64 1, .bool b, .int .i64 g, .int .i64 l, .int .i64 f], .int .i64 q, .int .i64 m] W (Got W k1 g (l - q) (f + 1) b1) := by
  by_cases h0 : l - q = 0
  · exact ⟨5, false, by decide, by decide, fun W => take_full_1 g l f q m b W h h1 h2 h5 h6 h7 h0⟩
  by_cases h3 : m ≤ f + 1
  · exact ⟨8, false, by decide, by decide, fun W => take_retire_1 g l f q m b W h h1 h2 h5 h6 h7 h0 h3⟩
  exact ⟨1, b, by decide, by decide, fun W => take_on_1 g l f q m b W h h1 h2 h5 h6 h7 h0 (by omega)⟩
theorem loose_case_1 (g l f q m : Int) (b : Bool) (w : World) (h5 : l ≤ 9223372036854775807) (h6 : m ≤ 9223372036854775807) (h7 : -9223372036854775808 ≤ f) (h8 : f ≤ 9223372036854775807) :
    Calls Try.prog 7 #[.agg #[.int .i64 1, .bool b, .int .i64 g, .int .i64 l, .int .i64 f], .int .i64 q, .int .i64 m] w fun e w' => e = .returned (.bool true) ∧ Below w.heap.size w w' := by
  have ho : ∀ W, Calls Try.prog 26 #[.agg #[.int .i64 1, .bool b, .int .i64 g, .int .i64 l, .int .i64 f]] W fun e w' => e = .returned (.bool false) ∧ Below W.heap.size W w' := fun W => over_low _ _ _ _ _ W (by omega)
  have hh : ∀ W, Calls Try.prog 33 #[.agg #[.int .i64 1, .bool b, .int .i64 g, .int .i64 l, .int .i64 f]] W (St W 3 g l f b) := fun W => hold_1 g l f b W
  by_cases c0 : q < 0
  · exact nn _ _ _ _ _ _ _ _ _ b b b b w ho (fun W => take_qty_low_1 _ _ _ _ _ _ W (by omega)) hh (fun W => rel_low_3 _ _ _ _ _ _ W c0)
  by_cases c1 : l < q
  · by_cases c2 : q < 1
    · exact nn _ _ _ _ _ _ _ _ _ b b b b w ho (fun W => take_qty_low_1 _ _ _ _ _ _ W c2) hh (fun W => rel_high_3 _ _ _ _ _ _ W (by omega) c1)
    · exact nn _ _ _ _ _ _ _ _ _ b b b b w ho (fun W => take_qty_high_1 _ _ _ _ _ _ W (by omega) c1) hh (fun W => rel_high_3 _ _ _ _ _ _ W (by omega) c1)
  by_cases c3 : q = 0
  · subst c3
    obtain ⟨k2, f2, b2, n3, n4, hr⟩ := relz_any_3 g l f m b (by omega)
    exact nr0 _ _ _ _ _ _ _ _ _ b b b b2 w ho n3 n4 (by omega) h5 (fun W => take_qty_low_1 _ _ _ _ _ _ W (by omega)) hh hr
  by_cases c4 : m ≤ f
  · exact nn _ _ _ _ _ _ _ _ _ b b b b w ho (fun W => take_limit_1 _ _ _ _ _ _ W (by omega) (by omega) c4) hh (fun W => rel_limit_3 _ _ _ _ _ _ W (by omega) (by omega) c4)
  obtain ⟨k2, f2, b2, n3, n4, hr⟩ := rel_any_3 g l f q m b (by omega) (by omega) (by omega) h5 h6 h7
  obtain ⟨k1, b1, o3, o4, ht⟩ := take_any_1 g l f q m b (by omega) (by omega) (by omega) h5 h6 h7
  exact bb _ _ _ _ _ _ _ _ _ _ b b b1 b2 w ho o3 o4 n3 n4 (by omega) (by omega) h5 (by omega) h7 (fun W => loose_1 g l f b W) ht hh hr
theorem held_case_3 (g l f q m : Int) (b : Bool) (w : World) (h5 : l ≤ 9223372036854775807) (h6 : m ≤ 9223372036854775807) (h7 : -9223372036854775808 ≤ f) (h8 : f ≤ 9223372036854775807) :
    Calls Try.prog 7 #[.agg #[.int .i64 3, .bool b, .int .i64 g, .int .i64 l, .int .i64 f], .int .i64 q, .int .i64 m] w fun e w' => e = .returned (.bool true) ∧ Below w.heap.size w w' := by
  have ho : ∀ W, Calls Try.prog 26 #[.agg #[.int .i64 3, .bool b, .int .i64 g, .int .i64 l, .int .i64 f]] W fun e w' => e = .returned (.bool false) ∧ Below W.heap.size W w' := fun W => over_low _ _ _ _ _ W (by omega)
  have hh : ∀ W, Calls Try.prog 33 #[.agg #[.int .i64 3, .bool b, .int .i64 g, .int .i64 l, .int .i64 f]] W (St W 3 g l f b) := fun W => hold_same _ _ _ _ _ W (by omega) (by omega)
  have ht : ∀ W, Calls Try.prog 27 #[.agg #[.int .i64 3, .bool b, .int .i64 g, .int .i64 l, .int .i64 f], .int .i64 q, .int .i64 m] W (Bad W 27) := fun W => take_busy _ _ _ _ _ _ _ W (by omega) (by omega)
  by_cases c0 : q < 0
  · exact nn _ _ _ _ _ _ _ _ _ b b b b w ho ht hh (fun W => rel_low_3 _ _ _ _ _ _ W c0)
  by_cases c1 : l < q
  · exact nn _ _ _ _ _ _ _ _ _ b b b b w ho ht hh (fun W => rel_high_3 _ _ _ _ _ _ W (by omega) c1)
  by_cases c3 : q = 0
  · subst c3
    obtain ⟨k2, f2, b2, n3, n4, hr⟩ := relz_any_3 g l f m b (by omega)
    exact nr0 _ _ _ _ _ _ _ _ _ b b b b2 w ho n3 n4 (by omega) h5 ht hh hr
  by_cases c4 : m ≤ f
  · exact nn _ _ _ _ _ _ _ _ _ b b b b w ho ht hh (fun W => rel_limit_3 _ _ _ _ _ _ W (by omega) (by omega) c4)
  obtain ⟨k2, f2, b2, n3, n4, hr⟩ := rel_any_3 g l f q m b (by omega) (by omega) (by omega) h5 h6 h7
  exact nr1 _ _ _ _ _ _ _ _ _ _ b b b b2 w ho n3 n4 (by decide) (by decide) (by omega) (by omega) h5 ht hh hr

theorem relz_any_4 (g l f m : Int) (b : Bool) (h : 0 ≤ l) : ∃ (k2 f2 : Int) (b2 : Bool), k2 ≠ 3 ∧ k2 ≠ 4 ∧ ∀ W, Calls Try.prog 28 #[.agg #[.int .i64 4, .bool b, .int .i64 g, .int .i64 l, .int .i64 f], .int .i64 0, .int .i64 m] W (Got W k2 g l f2 b2) := by
  by_cases h0 : l = 0
  · subst h0
    exact ⟨5, f, false, by decide, by decide, fun W => relz_full_4 g f m b W⟩
  by_cases h1 : m ≤ f
  · exact ⟨8, f, false, by decide, by decide, fun W => relz_retire_4 g l f m b W (by omega) h1⟩
  cases b
  · exact ⟨2, f, false, by decide, by decide, fun W => relz_on_false_4 g l f m W (by omega) (by omega)⟩
  · exact ⟨6, f, false, by decide, by decide, fun W => relz_on_true_4 g l f m W (by omega) (by omega)⟩
theorem rel_any_4 (g l f q m : Int) (b : Bool) (h : 1 ≤ q) (h1 : q ≤ l) (h2 : f < m) (h5 : l ≤ 9223372036854775807) (h6 : m ≤ 9223372036854775807) (h7 : -9223372036854775808 ≤ f) :
    ∃ (k2 f2 : Int) (b2 : Bool), k2 ≠ 3 ∧ k2 ≠ 4 ∧ ∀ W, Calls Try.prog 28 #[.agg #[.int .i64 4, .bool b, .int .i64 g, .int .i64 l, .int .i64 f], .int .i64 q, .int .i64 m] W (Got W k2 g (l - q) f2 b2) := by
  by_cases h0 : l - q = 0
  · exact ⟨5, f + 1, false, by decide, by decide, fun W => rel_full_4 g l f q m b W h h1 h2 h5 h6 h7 h0⟩
  by_cases h3 : m ≤ f + 1
  · exact ⟨8, f + 1, false, by decide, by decide, fun W => rel_retire_4 g l f q m b W h h1 h2 h5 h6 h7 h0 h3⟩
  cases b
  · exact ⟨2, f + 1, false, by decide, by decide, fun W => rel_on_false_4 g l f q m W h h1 h2 h5 h6 h7 h0 (by omega)⟩
  · exact ⟨6, f + 1, false, by decide, by decide, fun W => rel_on_true_4 g l f q m W h h1 h2 h5 h6 h7 h0 (by omega)⟩
theorem take_any_2 (g l f q m : Int) (b : Bool) (h : 1 ≤ q) (h1 : q ≤ l) (h2 : f < m) (h5 : l ≤ 9223372036854775807) (h6 : m ≤ 9223372036854775807) (h7 : -9223372036854775808 ≤ f) :
    ∃ (k1 : Int) (b1 : Bool), k1 ≠ 3 ∧ k1 ≠ 4 ∧ ∀ W, Calls Try.prog 27 #[.agg #[.int .i64 2, .bool b, .int .i64 g, .int .i64 l, .int .i64 f], .int .i64 q, .int .i64 m] W (Got W k1 g (l - q) (f + 1) b1) := by
  by_cases h0 : l - q = 0
  · exact ⟨5, false, by decide, by decide, fun W => take_full_2 g l f q m b W h h1 h2 h5 h6 h7 h0⟩
  by_cases h3 : m ≤ f + 1
  · exact ⟨8, false, by decide, by decide, fun W => take_retire_2 g l f q m b W h h1 h2 h5 h6 h7 h0 h3⟩
  exact ⟨2, b, by decide, by decide, fun W => take_on_2 g l f q m b W h h1 h2 h5 h6 h7 h0 (by omega)⟩
theorem loose_case_2 (g l f q m : Int) (b : Bool) (w : World) (h5 : l ≤ 9223372036854775807) (h6 : m ≤ 9223372036854775807) (h7 : -9223372036854775808 ≤ f) (h8 : f ≤ 9223372036854775807) :
    Calls Try.prog 7 #[.agg #[.int .i64 2, .bool b, .int .i64 g, .int .i64 l, .int .i64 f], .int .i64 q, .int .i64 m] w fun e w' => e = .returned (.bool true) ∧ Below w.heap.size w w' := by
  have ho : ∀ W, Calls Try.prog 26 #[.agg #[.int .i64 2, .bool b, .int .i64 g, .int .i64 l, .int .i64 f]] W fun e w' => e = .returned (.bool false) ∧ Below W.heap.size W w' := fun W => over_low _ _ _ _ _ W (by omega)
  have hh : ∀ W, Calls Try.prog 33 #[.agg #[.int .i64 2, .bool b, .int .i64 g, .int .i64 l, .int .i64 f]] W (St W 4 g l f b) := fun W => hold_2 g l f b W
  by_cases c0 : q < 0
  · exact nn _ _ _ _ _ _ _ _ _ b b b b w ho (fun W => take_qty_low_2 _ _ _ _ _ _ W (by omega)) hh (fun W => rel_low_4 _ _ _ _ _ _ W c0)
  by_cases c1 : l < q
  · by_cases c2 : q < 1
    · exact nn _ _ _ _ _ _ _ _ _ b b b b w ho (fun W => take_qty_low_2 _ _ _ _ _ _ W c2) hh (fun W => rel_high_4 _ _ _ _ _ _ W (by omega) c1)
    · exact nn _ _ _ _ _ _ _ _ _ b b b b w ho (fun W => take_qty_high_2 _ _ _ _ _ _ W (by omega) c1) hh (fun W => rel_high_4 _ _ _ _ _ _ W (by omega) c1)
  by_cases c3 : q = 0
  · subst c3
    obtain ⟨k2, f2, b2, n3, n4, hr⟩ := relz_any_4 g l f m b (by omega)
    exact nr0 _ _ _ _ _ _ _ _ _ b b b b2 w ho n3 n4 (by omega) h5 (fun W => take_qty_low_2 _ _ _ _ _ _ W (by omega)) hh hr
  by_cases c4 : m ≤ f
  · exact nn _ _ _ _ _ _ _ _ _ b b b b w ho (fun W => take_limit_2 _ _ _ _ _ _ W (by omega) (by omega) c4) hh (fun W => rel_limit_4 _ _ _ _ _ _ W (by omega) (by omega) c4)
  obtain ⟨k2, f2, b2, n3, n4, hr⟩ := rel_any_4 g l f q m b (by omega) (by omega) (by omega) h5 h6 h7
  obtain ⟨k1, b1, o3, o4, ht⟩ := take_any_2 g l f q m b (by omega) (by omega) (by omega) h5 h6 h7
  exact bb _ _ _ _ _ _ _ _ _ _ b b b1 b2 w ho o3 o4 n3 n4 (by omega) (by omega) h5 (by omega) h7 (fun W => loose_2 g l f b W) ht hh hr
theorem held_case_4 (g l f q m : Int) (b : Bool) (w : World) (h5 : l ≤ 9223372036854775807) (h6 : m ≤ 9223372036854775807) (h7 : -9223372036854775808 ≤ f) (h8 : f ≤ 9223372036854775807) :
    Calls Try.prog 7 #[.agg #[.int .i64 4, .bool b, .int .i64 g, .int .i64 l, .int .i64 f], .int .i64 q, .int .i64 m] w fun e w' => e = .returned (.bool true) ∧ Below w.heap.size w w' := by
  have ho : ∀ W, Calls Try.prog 26 #[.agg #[.int .i64 4, .bool b, .int .i64 g, .int .i64 l, .int .i64 f]] W fun e w' => e = .returned (.bool false) ∧ Below W.heap.size W w' := fun W => over_low _ _ _ _ _ W (by omega)
  have hh : ∀ W, Calls Try.prog 33 #[.agg #[.int .i64 4, .bool b, .int .i64 g, .int .i64 l, .int .i64 f]] W (St W 4 g l f b) := fun W => hold_same _ _ _ _ _ W (by omega) (by omega)
  have ht : ∀ W, Calls Try.prog 27 #[.agg #[.int .i64 4, .bool b, .int .i64 g, .int .i64 l, .int .i64 f], .int .i64 q, .int .i64 m] W (Bad W 27) := fun W => take_busy _ _ _ _ _ _ _ W (by omega) (by omega)
  by_cases c0 : q < 0
  · exact nn _ _ _ _ _ _ _ _ _ b b b b w ho ht hh (fun W => rel_low_4 _ _ _ _ _ _ W c0)
  by_cases c1 : l < q
  · exact nn _ _ _ _ _ _ _ _ _ b b b b w ho ht hh (fun W => rel_high_4 _ _ _ _ _ _ W (by omega) c1)
  by_cases c3 : q = 0
  · subst c3
    obtain ⟨k2, f2, b2, n3, n4, hr⟩ := relz_any_4 g l f m b (by omega)
    exact nr0 _ _ _ _ _ _ _ _ _ b b b b2 w ho n3 n4 (by omega) h5 ht hh hr
  by_cases c4 : m ≤ f
  · exact nn _ _ _ _ _ _ _ _ _ b b b b w ho ht hh (fun W => rel_limit_4 _ _ _ _ _ _ W (by omega) (by omega) c4)
  obtain ⟨k2, f2, b2, n3, n4, hr⟩ := rel_any_4 g l f q m b (by omega) (by omega) (by omega) h5 h6 h7
  exact nr1 _ _ _ _ _ _ _ _ _ _ b b b b2 w ho n3 n4 (by decide) (by decide) (by omega) (by omega) h5 ht hh hr

theorem walk (a0_0 : Int) (a0_1 : Bool) (a0_2 : Int) (a0_3 : Int) (a0_4 : Int) (a1 : Int) (a2 : Int) (w : World) (w0_0 : (Lit.int .i64 a0_0).wf = true) (w0_2 : (Lit.int .i64 a0_2).wf = true) (w0_3 : (Lit.int .i64 a0_3).wf = true) (w0_4 : (Lit.int .i64 a0_4).wf = true) (w1 : (Lit.int .i64 a1).wf = true) (w2 : (Lit.int .i64 a2).wf = true) :
    Calls Try.prog 7 #[.agg #[.int .i64 a0_0, .bool a0_1, .int .i64 a0_2, .int .i64 a0_3, .int .i64 a0_4], .int .i64 a1, .int .i64 a2] w fun e w' => e = .returned (.bool true) ∧ Below w.heap.size w w' := by
  have b3 := (bounds_i64 w0_3).2
  have b4 := bounds_i64 w0_4
  have b2 := (bounds_i64 w2).2
  by_cases c1 : a0_0 = 1
  · subst c1; exact loose_case_1 _ _ _ _ _ _ w b3 b2 b4.1 b4.2
  by_cases c2 : a0_0 = 2
  · subst c2; exact loose_case_2 _ _ _ _ _ _ w b3 b2 b4.1 b4.2
  by_cases c3 : a0_0 = 3
  · subst c3; exact held_case_3 _ _ _ _ _ _ w b3 b2 b4.1 b4.2
  by_cases c4 : a0_0 = 4
  · subst c4; exact held_case_4 _ _ _ _ _ _ w b3 b2 b4.1 b4.2
  by_cases c5 : 5 ≤ a0_0 ∧ a0_0 ≤ 8
  · exact over_case _ _ _ _ _ _ _ w c5.1 c5.2
  · exact nn _ _ _ _ _ _ _ _ _ a0_1 a0_1 a0_1 a0_1 w (fun W => by
      by_cases h : a0_0 < 5
      · exact over_low _ _ _ _ _ W h
      · exact over_high _ _ _ _ _ W (by omega))
      (fun W => take_busy _ _ _ _ _ _ _ W c1 c2) (fun W => hold_same _ _ _ _ _ W c1 c2) (fun W => release_arg _ _ _ _ _ _ _ W c3 c4)
end Go.Proofs.Ytbooncoealpfdaa.cellStays

/-
  What a verb and its numbers come to.
-/
import Derived.Test.YtafnipgeeampjaaGreatDoorRows
import Derived.Test.YtafnipgeeampjaaGreatDoorKit
import Derived.Test.YtafnipgeeampjaaGreatDoorApp
import Derived.Test.YtafnipgeeampjaaGreatDoorQuiet
import Derived.WalkKit
import Derived.ProofKit
import Derived.OpenShut
import Derived.ShutString
import Derived.Below
import Derived.Outline
import Derived.WalkLawsBesides
import Derived.WalkSpells
import Derived.Handy
import Derived.Deep.QuietTactic
import Derived.BigQuiet
import Derived.RegionTactic
import Derived.ChangeAlike
import Derived.Lib.Hide
import Derived.Laws.Rows
import Derived.Laws.Tables
import Derived.Laws.CopyOwn
import Derived.Laws.MakeOwn
import Derived.Laws.Entries
import Derived.Laws.OwnMore
import Derived.Deep.WholeRow
import Derived.Deep.LoopGhost
import Derived.Deep.AppendLies
import Derived.Deep.Draws
import Derived.Maps.AppendAt
import Derived.OwnWalk
import Derived.Deep.RegionHeld3
import Derived.Deep.Cut
import Derived.Deep.CutRange
import Derived.Deep.DeepCutAuto
import Derived.Deep.CutBlock
import Derived.Lib.SliceRun
import Derived.IntWalk
import Derived.Laws.Strings
import Derived.Lib.Bytealg
import Derived.Lib.Strings
import Derived.Laws.Externs
import Derived.Test.YtafnipgeeampjaaGreatDoorSrR
namespace Go.Proofs.YtafnipgeeampjaaGreatDoor
open Go.ChangeShapes Go.WideShapes Go.ChangeAt Go.RowKit
theorem infoI : (Tryz.prog.info? 3).map (fun i => (i.zero, i.size, i.bytes)) = some (some (.int .i64 0), 1, 8) := by kernel_rfl
theorem eq_lit (l m : List UInt8) : ((Bs l).toList == m) = (l == m) := by
  rw [ByteArray.toList_eq, Bs_list]
/-- A row's cells, when there are some. -/
theorem own_at {w : World} {base n : Nat} {e : TypeId} {v : Value} {xs : List Value} (h : w.ownsRow base e 1 v n xs) (h0 : 0 < n) : ∃ g c, v = .slice (some ⟨g, 0, none⟩) n c ∧ base ≤ g ∧ g < w.heap.size ∧ n ≤ c ∧ ∀ (j : Nat) (u : Value), xs[j]? = some u → w.cell? ⟨g, j, none⟩ = some u := by
  rcases h.2 with ⟨_, h2⟩ | ⟨g, c, cur, hv, hg, hh, hc, _, _, hr⟩
  · omega
  · refine ⟨g, c, hv, hg, blk_lt hh, hc, fun j u hj => ?_⟩
    rw [cell_of_row _ _ _ _ _ _ hh]
    rw [← hr, List.getElem?_take] at hj
    split at hj
    · simpa using hj
    · cases hj
/-- The events of a block. -/
theorem SvAt.of {B : Nat} {L : List Sev} {w : World} (h : Bl B (evs L) w) : SvAt (some ⟨B, 0, none⟩) L w := fun _ => ⟨_, rfl, h.lt, fun i e hi => by
  obtain ⟨g0, g1, g2, g3⟩ := evs_get _ _ _ hi
  have s := fun j v (hj : (evs L)[j]? = some v) => h.src 0 j v (by rwa [Nat.zero_add])
  exact ⟨s _ _ g0, s _ _ g1, s _ _ g2, s _ _ g3⟩⟩
set_option maxRecDepth 100000 in
set_option maxHeartbeats 4000000 in
theorem done_tick (a : Int) (base : Nat) (w : World) (v : Value) (h : w.ownsRow base 3 1 v 1 [.int .i64 a]) (hb : base ≤ w.heap.size) : Calls Tryz.prog 33 #[.string (Bs vtick), v] w fun e w' => ∃ B, e = .returned (.slice (some ⟨B, 0, none⟩) 1 1) ∧ Bl B (evs [⟨2, 0, a, []⟩]) w' ∧ Below base w w' := by
  obtain ⟨g, c, rfl, hg, hgl, hc, hx⟩ := own_at h (by decide)
  have x0 := hx 0 _ rfl
  have e0 : ((Bs vtick).toList == [116, 105, 99, 107]) = true := by rw [eq_lit]; decide
  have e1 : ((Bs vtick).toList == [100, 114, 97, 119]) = false := by rw [eq_lit]; decide
  have e2 : ((Bs vtick).toList == [112, 105, 99, 107]) = false := by rw [eq_lit]; decide
  clear h hx
  go_enter Tryz.func33, Tryz.ntmps33
  go_wp2_with fail
  go_ret
  exact ⟨_, rfl, Bl.new _ (evs [⟨2, 0, a, []⟩]) _, (Below.refl _ _).alloc hb _⟩
set_option maxRecDepth 100000 in
set_option maxHeartbeats 4000000 in
theorem done_draw (a b : Int) (base : Nat) (w : World) (v : Value) (h : w.ownsRow base 3 1 v 2 [.int .i64 a, .int .i64 b]) (hb : base ≤ w.heap.size) : Calls Tryz.prog 33 #[.string (Bs vdraw), v] w fun e w' => ∃ B, e = .returned (.slice (some ⟨B, 0, none⟩) 1 1) ∧ Bl B (evs [⟨4, a, b, []⟩]) w' ∧ Below base w w' := by
  obtain ⟨g, c, rfl, hg, hgl, hc, hx⟩ := own_at h (by decide)
  have x0 := hx 0 _ rfl
  have x1 := hx 1 _ rfl
  have e0 : ((Bs vdraw).toList == [116, 105, 99, 107]) = false := by rw [eq_lit]; decide
  have e1 : ((Bs vdraw).toList == [100, 114, 97, 119]) = true := by rw [eq_lit]; decide
  have e2 : ((Bs vdraw).toList == [112, 105, 99, 107]) = false := by rw [eq_lit]; decide
  clear h hx
  go_enter Tryz.func33, Tryz.ntmps33
  go_wp2_with fail
  go_region
  all_goals go_wp2_with fail
  all_goals go_ret
  exact ⟨_, rfl, Bl.new w (evs [⟨4, a, b, []⟩]) _, Below.drew ((Below.refl _ _).alloc hb _)⟩
set_option maxRecDepth 100000 in
set_option maxHeartbeats 4000000 in
theorem done_picks (a : Int) (N : Nat) (base : Nat) (w : World) (v : Value) (h : w.ownsRow base 3 1 v 2 [.int .i64 a, .int .i64 (N : Int)]) (hb : base ≤ w.heap.size) (h2 : 2 ≤ N) (h3 : N ≤ 10000) : Calls Tryz.prog 33 #[.string (Bs vpick), v] w fun e w' => ∃ B, e = .returned (.slice (some ⟨B, 0, none⟩) N N) ∧ Bl B (evs (List.replicate N ⟨3, a, 0, []⟩)) w' ∧ Below base w w' := by
  obtain ⟨g, c, rfl, hg, hgl, hc, hx⟩ := own_at h (by decide)
  have x0 := hx 0 _ rfl
  have x1 := hx 1 _ rfl
  have e0 : ((Bs vpick).toList == [116, 105, 99, 107]) = false := by rw [eq_lit]; decide
  have e1 : ((Bs vpick).toList == [100, 114, 97, 119]) = false := by rw [eq_lit]; decide
  have e2 : ((Bs vpick).toList == [112, 105, 99, 107]) = true := by rw [eq_lit]; decide
  have q2 : (2 : Int) ≤ (N : Int) := by omega
  have q3 : (N : Int) ≤ 10000 := by omega
  have HR := Lib.hid (fun X W hx => repeat_is X ⟨3, a, 0, []⟩ N (by omega) h3 W hx)
  have HB := Lib.hid (Below.drew ((Below.refl base w).alloc hb (.cells (evc ⟨3, a, 0, []⟩).toArray 40)))
  clear h hx h2 h3
  go_enter Tryz.func33, Tryz.ntmps33
  go_wp2_with fail
  go_region_with (go_at_call 47; refine (HR.out w.heap.size _ (by exact Bl.new w (evc ⟨3, a, 0, []⟩) 40)).mono ?_; rintro e1 w1 ⟨B1, rfl, hl1, hb1, hw1⟩)
  all_goals go_wp2_with fail
  all_goals go_ret
  all_goals exact ⟨_, rfl, hl1, HB.out.trans (hw1.mono (Nat.le_trans hb HB.out.size))⟩
set_option maxRecDepth 100000 in
set_option maxHeartbeats 4000000 in
theorem done_pick (a : Int) (base : Nat) (w : World) (v : Value) (h : w.ownsRow base 3 1 v 1 [.int .i64 a]) (hb : base ≤ w.heap.size) : Calls Tryz.prog 33 #[.string (Bs vpick), v] w fun e w' => ∃ B, e = .returned (.slice (some ⟨B, 0, none⟩) 1 1) ∧ Bl B (evs [⟨3, a, 0, []⟩]) w' ∧ Below base w w' := by
  obtain ⟨g, c, rfl, hg, hgl, hc, hx⟩ := own_at h (by decide)
  have x0 := hx 0 _ rfl
  have e0 : ((Bs vpick).toList == [116, 105, 99, 107]) = false := by rw [eq_lit]; decide
  have e1 : ((Bs vpick).toList == [100, 114, 97, 119]) = false := by rw [eq_lit]; decide
  have e2 : ((Bs vpick).toList == [112, 105, 99, 107]) = true := by rw [eq_lit]; decide
  have HR := Lib.hid (fun X W hx => repeat_is X ⟨3, a, 0, []⟩ 1 (by omega) (by omega) W hx)
  obtain ⟨i0, hi, hz0, hz1, hz2⟩ := info_parts infoI
  have HH := Lib.hid h
  clear h hx
  go_enter Tryz.func33, Tryz.ntmps33
  go_wp2_with (at_builtin; refine wpList_append_any _ rfl (.tmp 42) (.tmp 43) 53 rfl base 3 i0 (.int .i64 0) 1 8 Tryz.underlying53 hi hz0 hz1 hz2 rfl (by decide) _ 1 [.int .i64 a] rfl (rkept (HH.out) (by go_grown)) _ (some ⟨w.heap.size, 0, none⟩) 1 1 [.int .i64 1] rfl (reads_newN w 1 1 [.int .i64 1] 3 rfl) (by intro u hu; simp only [List.mem_cons, List.not_mem_nil, or_false] at hu; subst hu; rfl) (by decide) (by decide) (by simp; omega) ?_; intro v3 w3 hown3 hgrow3 hb3; obtain ⟨g3, c3, rfl, hg3, hgl3, hc3, hx3⟩ := own_at (n := 2) hown3 (by decide); have z0 := hx3 0 _ rfl; have z1 := hx3 1 _ rfl; have HG3 := Lib.hid (Below.grown (a := w) (B := base) ((Below.refl base w).alloc hb _) hgrow3 (by simp; omega) (fun k hk => by injection hk with hk; exact hk ▸ hg)); clear hx3 hown3 hgrow3 hb3)
  have HB := Lib.hid (Below.drew (HG3.out.alloc (Nat.le_trans hb HG3.out.size) (.cells (evc ⟨3, a, 0, []⟩).toArray 40)))
  go_region_with (go_at_call 47; refine (HR.out w3.heap.size _ (by exact Bl.new w3 (evc ⟨3, a, 0, []⟩) 40)).mono ?_; rintro e1 w1 ⟨B1, rfl, hl1, hb1, hw1⟩)
  all_goals go_wp2_with fail
  all_goals go_ret
  all_goals exact ⟨_, rfl, hl1, HB.out.trans (hw1.mono (Nat.le_trans hb HB.out.size))⟩
set_option maxRecDepth 100000 in
set_option maxHeartbeats 4000000 in
theorem done_tick_no (m : Nat) (n : List Value) (base : Nat) (w : World) (v : Value) (h : w.ownsRow base 3 1 v m n) (hb : base ≤ w.heap.size) (h0 : 0 < m) (hm : m ≠ 1) : Calls Tryz.prog 33 #[.string (Bs vtick), v] w fun e w' => e = .returned (.slice none 0 0) ∧ w' = w := by
  obtain ⟨g, c, rfl, hg, hgl, hc, hx⟩ := own_at h (by omega)
  have e0 : ((Bs vtick).toList == [116, 105, 99, 107]) = true := by rw [eq_lit]; decide
  have e1 : ((Bs vtick).toList == [100, 114, 97, 119]) = false := by rw [eq_lit]; decide
  have e2 : ((Bs vtick).toList == [112, 105, 99, 107]) = false := by rw [eq_lit]; decide
  have q : ((m : Int) == 1) = false := beq_eq_false_iff_ne.2 (by omega)
  clear h hx
  go_enter Tryz.func33, Tryz.ntmps33
  go_wp2_with fail
  go_ret
  exact ⟨rfl, rfl⟩
set_option maxRecDepth 100000 in
set_option maxHeartbeats 4000000 in
theorem done_draw_no (m : Nat) (n : List Value) (base : Nat) (w : World) (v : Value) (h : w.ownsRow base 3 1 v m n) (hb : base ≤ w.heap.size) (h0 : 0 < m) (hm : m ≠ 2) : Calls Tryz.prog 33 #[.string (Bs vdraw), v] w fun e w' => e = .returned (.slice none 0 0) ∧ w' = w := by
  obtain ⟨g, c, rfl, hg, hgl, hc, hx⟩ := own_at h (by omega)
  have e0 : ((Bs vdraw).toList == [116, 105, 99, 107]) = false := by rw [eq_lit]; decide
  have e1 : ((Bs vdraw).toList == [100, 114, 97, 119]) = true := by rw [eq_lit]; decide
  have e2 : ((Bs vdraw).toList == [112, 105, 99, 107]) = false := by rw [eq_lit]; decide
  have q : ((m : Int) == 2) = false := beq_eq_false_iff_ne.2 (by omega)
  clear h hx
  go_enter Tryz.func33, Tryz.ntmps33
  go_wp2_with fail
  go_ret
  exact ⟨rfl, rfl⟩
set_option maxRecDepth 100000 in
set_option maxHeartbeats 4000000 in
theorem done_pick_no (m : Nat) (n : List Value) (base : Nat) (w : World) (v : Value) (h : w.ownsRow base 3 1 v m n) (hb : base ≤ w.heap.size) (h0 : 0 < m) (hm : m ≠ 1 ∧ m ≠ 2) : Calls Tryz.prog 33 #[.string (Bs vpick), v] w fun e w' => e = .returned (.slice none 0 0) ∧ w' = w := by
  obtain ⟨g, c, rfl, hg, hgl, hc, hx⟩ := own_at h (by omega)
  have e0 : ((Bs vpick).toList == [116, 105, 99, 107]) = false := by rw [eq_lit]; decide
  have e1 : ((Bs vpick).toList == [100, 114, 97, 119]) = false := by rw [eq_lit]; decide
  have e2 : ((Bs vpick).toList == [112, 105, 99, 107]) = true := by rw [eq_lit]; decide
  have q : ((m : Int) == 1) = false := beq_eq_false_iff_ne.2 (by omega)
  have q2 : ((m : Int) == 2) = false := beq_eq_false_iff_ne.2 (by omega)
  clear h hx
  go_enter Tryz.func33, Tryz.ntmps33
  go_wp2_with fail
  go_ret
  exact ⟨rfl, rfl⟩
set_option maxRecDepth 100000 in
set_option maxHeartbeats 4000000 in
theorem done_pick_few (a b : Int) (base : Nat) (w : World) (v : Value) (h : w.ownsRow base 3 1 v 2 [.int .i64 a, .int .i64 b]) (hb : base ≤ w.heap.size) (h2 : b < 2) : Calls Tryz.prog 33 #[.string (Bs vpick), v] w fun e w' => e = .returned (.slice none 0 0) ∧ w' = w := by
  obtain ⟨g, c, rfl, hg, hgl, hc, hx⟩ := own_at h (by omega)
  have e0 : ((Bs vpick).toList == [116, 105, 99, 107]) = false := by rw [eq_lit]; decide
  have e1 : ((Bs vpick).toList == [100, 114, 97, 119]) = false := by rw [eq_lit]; decide
  have e2 : ((Bs vpick).toList == [112, 105, 99, 107]) = true := by rw [eq_lit]; decide
  have x1 := hx 1 _ rfl
  have q : ¬ 2 ≤ b := by omega
  clear h hx
  go_enter Tryz.func33, Tryz.ntmps33
  go_wp2_with fail
  go_ret
  exact ⟨rfl, rfl⟩
set_option maxRecDepth 100000 in
set_option maxHeartbeats 4000000 in
theorem done_pick_many (a b : Int) (base : Nat) (w : World) (v : Value) (h : w.ownsRow base 3 1 v 2 [.int .i64 a, .int .i64 b]) (hb : base ≤ w.heap.size) (h2 : 10000 < b) : Calls Tryz.prog 33 #[.string (Bs vpick), v] w fun e w' => e = .returned (.slice none 0 0) ∧ w' = w := by
  obtain ⟨g, c, rfl, hg, hgl, hc, hx⟩ := own_at h (by omega)
  have e0 : ((Bs vpick).toList == [116, 105, 99, 107]) = false := by rw [eq_lit]; decide
  have e1 : ((Bs vpick).toList == [100, 114, 97, 119]) = false := by rw [eq_lit]; decide
  have e2 : ((Bs vpick).toList == [112, 105, 99, 107]) = true := by rw [eq_lit]; decide
  have x1 := hx 1 _ rfl
  have q : 2 ≤ b := by omega
  have q2 : ¬ b ≤ 10000 := by omega
  clear h hx
  go_enter Tryz.func33, Tryz.ntmps33
  go_wp2_with fail
  go_ret
  exact ⟨rfl, rfl⟩

end Go.Proofs.YtafnipgeeampjaaGreatDoor

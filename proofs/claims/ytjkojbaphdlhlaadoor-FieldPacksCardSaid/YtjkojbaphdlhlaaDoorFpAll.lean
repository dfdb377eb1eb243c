/-
  All of a layout, and what is wrong with widths.
-/
import Derived.Test.YtjkojbaphdlhlaaDoorRows
import Derived.Test.YtjkojbaphdlhlaaDoorKit
import Derived.Test.YtjkojbaphdlhlaaDoorFpLay
import Derived.Test.YtjkojbaphdlhlaaDoorFpAny
import Derived.Test.YtjkojbaphdlhlaaDoorFpGet
import Derived.Test.YtjkojbaphdlhlaaDoorFpRefTwo
import Derived.Test.YtjkojbaphdlhlaaDoorFpAwakeB
import Derived.WalkKit
import Derived.ProofKit
import Derived.OpenShut
import Derived.ShutString
import Derived.Below
import Derived.Outline
import Derived.WalkLawsBesides
import Derived.WalkSpells
import Derived.Handy
import Derived.Deep.QuietTactic
import Derived.BigQuiet
import Derived.RegionTactic
import Derived.ChangeAlike
import Derived.Lib.Hide
import Derived.Laws.Rows
import Derived.Laws.Tables
import Derived.Laws.CopyOwn
import Derived.Deep.WholeRow
import Derived.Deep.LoopGhost
import Derived.Laws.BitsAllLaws
import Derived.Laws.BitsLemmas
import Derived.IntWalk
import Derived.Laws.MakeOwn
import Derived.Laws.Entries
import Derived.Deep.RegionLaw
import Derived.Deep.Cut
import Derived.Deep.CutRange
import Derived.Deep.DeepCutAuto
namespace Go.Proofs.YtjkojbaphdlhlaaDoor.Fp
set_option linter.unusedVariables false
set_option linter.unusedSimpArgs false
open Go.ChangeShapes Go.WideShapes Go.ChangeAt Go.RowKit
theorem run_make_rowN {P : Program} (t e : TypeId) (i : TypeInfo) (z : Value) (ht : P.underlying t = some (.slice e)) (hi : P.info? e = some i) (hz : i.zero = some z)
    (kl kc : IntKind) (n c : Nat) (hnc : n ≤ c) (hbytes : i.bytes * c ≤ 281474976710656) (h63 : c ≤ 9223372036854775807) (w : World) :
    (Instr.makeSlice t (.int kl (n : Int)) (.int kc (c : Int))).run P w = .ok (.slice (some ⟨w.heap.size, 0, none⟩) n c) (w.alloc (.cells (madeCells z.cells (c * i.size)) e)) := by
  have hb : (i.bytes : Int) * (c : Int) ≤ 281474976710656 := by
    have h : ((i.bytes * c : Nat) : Int) ≤ 281474976710656 := by omega
    rwa [Int.natCast_mul] at h
  have hr := run_make (P := P) w t e i z ht hi hz kl kc n c (by omega) (by omega) hb (by omega)
  simp only [Int.toNat_natCast] at hr
  exact hr
theorem info3 : (Tryd.prog.info? 3).map (fun i => (i.zero, i.size, i.bytes)) = some (some (.int .i64 0), 1, 8) := by kernel_rfl
theorem make22 (n : Nat) (hn : n ≤ 64) (W : World) : (Instr.makeSlice 22 (.int .i64 (n : Int)) (.int .i64 (n : Int))).run Tryd.prog W = .ok (.slice (some ⟨W.heap.size, 0, none⟩) n n) (W.alloc (.cells (madeCells (Value.int .i64 0).cells (n * 1)) 3)) := by
  obtain ⟨i0, hi, hz0, hz1, hz2⟩ := info_parts info3
  have h := run_make_rowN (P := Tryd.prog) 22 3 i0 (.int .i64 0) Tryd.underlying22 hi hz0 .i64 .i64 n n (Nat.le_refl _) (by rw [hz2]; omega) (by omega) W
  rw [hz1] at h
  exact h
set_option maxRecDepth 100000 in
set_option maxHeartbeats 4000000 in
theorem all13 {cs : Array Value} {n : Nat} {s : Nat → Int} (hL : Lay cs n s) (hS : Steps n s) (x : Nat) (hx : x < 18446744073709551616) (w : World) :
    Calls Tryd.prog 15 #[.agg cs, .int .u64 (x : Int)] w fun e w' => ∃ B, e = .returned (.slice (some ⟨B, 0, none⟩) n n) ∧ RowI w' (some ⟨B, 0, none⟩) n (fld s x) ∧ Below w.heap.size w w' := by
  have hn := hS.2.1
  have hmk := make22 n hn
  have c0 := lay_cell w 0 _ hL.cnt
  have HSZ := Lib.hid (lay_info hL)
  have HA := Lib.hid (heap_alloc_new w (.cells cs 28))
  have HL := Lib.hid hL
  have HS := Lib.hid hS
  clear hL hS
  go_enter Tryd.func15, Tryd.ntmps15
  go_wp2_with fail
  have g0 : ((w.alloc (Obj.cells cs 28)).alloc (Obj.cells (madeCells #[Value.int .i64 0] n) 3)).heap[w.heap.size]? = some (.cells cs 28 (0, 0)) := (Below.heap_alloc _ _ _ (by simp)).trans HA.out
  have g1 : ((w.alloc (Obj.cells cs 28)).alloc (Obj.cells (madeCells #[Value.int .i64 0] n) 3)).heap[w.heap.size + 1]? = some (.cells (madeCells #[Value.int .i64 0] n) 3 (0, 0)) := by
    have := heap_alloc_new (w.alloc (Obj.cells cs 28)) (Obj.cells (madeCells #[Value.int .i64 0] n) 3)
    rw [World.size_alloc] at this
    exact this
  go_loopw [12] (fun i wr => ∃ (k : Nat) (ca : Array Value), k ≤ n ∧ i = .int .i64 k ∧ Hid (wr.heap[w.heap.size]? = some (.cells cs 28 (0, 0))) ∧ Hid (wr.heap[w.heap.size + 1]? = some (.cells ca 3 (0, 0))) ∧ Hid (ca.size = n) ∧ Hid (∀ j, j < k → ca[j]? = some (.int .i64 (fld s x j))) ∧ Below w.heap.size w wr) (fun i _ => n - (intOf i).toNat)
  case atStart => exact ⟨0, _, Nat.zero_le _, rfl, g0, g1, size_madeCells _ _, fun j hj => absurd hj (Nat.not_lt_zero j), by go_grown⟩
  case round =>
    clear g0 g1
    obtain ⟨k, ca, hk, rfl, HG0, HG1, HZ, HC, hB⟩ := hrel
    by_cases hlt : k < n
    · have i0 : (0 : Int) ≤ (k : Int) := Int.natCast_nonneg k
      have i1 : (k : Int) < (n : Int) := by omega
      go_wp2_with (refine wpList_load_row rfl 28 _ rfl w.heap.size rfl 28 _ (0, 0) _ HG0.out Tryd.underlying28 rfl HSZ.out ?_)
      refine (get43 HL.out HS.out x k hx hlt _).mono ?_
      rintro e w1 ⟨rfl, hb1⟩
      have hB1 : Below w.heap.size w w1 := Below.step hB hb1
      have HG01 : Hid (w1.heap[w.heap.size]? = some (.cells cs 28 (0, 0))) := (hb1.block _ (blk_lt HG0.out)).trans HG0.out
      have hg11 : w1.heap[w.heap.size + 1]? = some (.cells ca 3 (0, 0)) := (hb1.block _ (blk_lt HG1.out)).trans HG1.out
      have hca : ca[k]? = some (ca[k]'(by rw [HZ.out]; exact hlt)) := Array.getElem?_eq_getElem _
      have cell : w1.cell? ⟨w.heap.size + 1, k, none⟩ = some (ca[k]'(by rw [HZ.out]; exact hlt)) := by rw [cell_of_row _ _ _ _ _ _ hg11]; exact hca
      have frz : w1.frozen? ⟨w.heap.size + 1, k, none⟩ = false := blk_frozen hg11 k
      have HG11 := Lib.hid hg11
      generalize (ca[k]'(by rw [HZ.out]; exact hlt)) = v0 at cell
      clear hg11 hca hb1
      go_wp2_with fail
      go_roundw
      case rel =>
        refine ⟨k + 1, ca.setIfInBounds k (.int .i64 (fld s x k)), by omega, by go_num, blk_far HG01.out (by show w.heap.size ≠ w.heap.size + 1; omega) _, blk_set HG11.out k _, by show (ca.setIfInBounds k _).size = n; rw [Array.size_setIfInBounds]; exact HZ.out, fun j hj => ?_, hB1.setCell (by show w.heap.size ≤ w.heap.size + 1; omega) _⟩
        by_cases e : j = k
        · subst e
          rw [Array.getElem?_setIfInBounds_self_of_lt (by rw [HZ.out]; omega)]
        · rw [Array.getElem?_setIfInBounds_ne (by omega)]
          exact HC.out j (by omega)
      case measure => simp [intOf]; omega
    · obtain rfl : k = n := by omega
      have hbd := fld_bd HS.out x
      go_wp2
      go_ret
      exact ⟨w.heap.size + 1, rfl, fun j hj => ⟨w.heap.size + 1, 0, rfl, blk_lt HG1.out, by rw [cell_of_row _ _ _ _ _ _ HG1.out, Nat.zero_add]; exact HC.out j hj, by have := hbd j hj; omega, by have := hbd j hj; omega⟩, hB⟩

end Go.Proofs.YtjkojbaphdlhlaaDoor.Fp

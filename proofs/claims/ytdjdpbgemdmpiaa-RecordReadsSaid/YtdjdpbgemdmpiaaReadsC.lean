/-
  Rows of records, by all of their cells: made, kept, an element put.
-/
import Derived.Test.YtdjdpbgemdmpiaaRows
import Derived.WalkKit
import Derived.ProofKit
import Derived.OpenShut
import Derived.ShutString
import Derived.Below
import Derived.Outline
import Derived.WalkLawsBesides
import Derived.WalkSpells
import Derived.Handy
import Derived.Deep.QuietTactic
import Derived.BigQuiet
import Derived.RegionTactic
import Derived.ChangeAlike
import Derived.Lib.Hide
import Derived.Test.YtdjdpbgemdmpiaaKit
import Derived.Test.YtdjdpbgemdmpiaaApp
import Derived.Test.YtdjdpbgemdmpiaaRowAt
import Derived.Laws.MakeOwn
namespace Go.Proofs.Ytdjdpbgemdmpiaa
open Go.ChangeShapes Go.WideShapes Go.ChangeAt Go.RowKit
namespace Reads8
theorem run_make_rowN {P : Program} (t e : TypeId) (i : TypeInfo) (z : Value) (ht : P.underlying t = some (.slice e)) (hi : P.info? e = some i) (hz : i.zero = some z)
    (kl kc : IntKind) (n c : Nat) (hnc : n ≤ c) (hbytes : i.bytes * c ≤ 281474976710656) (h63 : c ≤ 9223372036854775807) (w : World) :
    (Instr.makeSlice t (.int kl (n : Int)) (.int kc (c : Int))).run P w = .ok (.slice (some ⟨w.heap.size, 0, none⟩) n c) (w.alloc (.cells (madeCells z.cells (c * i.size)) e)) := by
  have hb : (i.bytes : Int) * (c : Int) ≤ 281474976710656 := by
    have h : ((i.bytes * c : Nat) : Int) ≤ 281474976710656 := by omega
    rwa [Int.natCast_mul] at h
  have hr := run_make (P := P) w t e i z ht hi hz kl kc n c (by omega) (by omega) hb (by omega)
  simp only [Int.toNat_natCast] at hr
  exact hr
theorem infoR : (Try.prog.info? 78).map (fun i => (i.zero, i.size, i.bytes)) = some (some (.agg #[.int .i64 0, .int .i64 0, .int .i64 0, .int .i64 0, .int .i64 0, .int .i64 0]), 6, 48) := by kernel_rfl
theorem makeR (n : Nat) (hn : n ≤ 8192) (W : World) : (Instr.makeSlice 75 (.int .i64 (n : Int)) (.int .i64 (n : Int))).run Try.prog W = .ok (.slice (some ⟨W.heap.size, 0, none⟩) n n) (W.alloc (.cells (madeCells #[Value.int .i64 0, Value.int .i64 0, Value.int .i64 0, Value.int .i64 0, Value.int .i64 0, Value.int .i64 0] (n * 6)) 78)) := by
  obtain ⟨i0, hi, hz0, hz1, hz2⟩ := info_parts infoR
  have h := run_make_rowN (P := Try.prog) 75 78 i0 (.agg #[.int .i64 0, .int .i64 0, .int .i64 0, .int .i64 0, .int .i64 0, .int .i64 0]) Try.underlying75 hi hz0 .i64 .i64 n n (Nat.le_refl _) (by rw [hz2]; omega) (by omega) W
  rw [hz1] at h
  exact h
theorem made_cell (m i : Nat) (hi : i < m) : (madeCells #[Value.int .i64 0, Value.int .i64 0, Value.int .i64 0, Value.int .i64 0, Value.int .i64 0, Value.int .i64 0] m)[i]? = some (.int .i64 0) := by
  unfold madeCells
  have h6 : i % 6 < 6 := Nat.mod_lt _ (by decide)
  rw [Array.getElem?_map, Array.getElem?_range]
  simp only [hi, if_true, Option.map_some]
  generalize i % 6 = r at *
  match r, h6 with
  | 0, _ | 1, _ | 2, _ | 3, _ | 4, _ | 5, _ => rfl
/-- A row of records in block B. -/
structure Grid (B F : Nat) (v : Nat → Nat → Int) (w : World) : Prop where
  c : ∀ k j, k < F → j < 6 → w.cell? ⟨B, k * 6 + j, none⟩ = some (.int .i64 (v k j))
  f : ∀ o, o < F * 6 → w.frozen? ⟨B, o, none⟩ = false
  l : B < w.heap.size
theorem Grid.below {B F : Nat} {v : Nat → Nat → Int} {w w' : World} (h : Grid B F v w) (hb : Below w.heap.size w w') : Grid B F v w' :=
  ⟨fun k j hk hj => (hb.cell (p := ⟨B, k * 6 + j, none⟩) h.l).trans (h.c k j hk hj), fun o ho => (hb.frozen (p := ⟨B, o, none⟩) h.l).trans (h.f o ho), Nat.lt_of_lt_of_le h.l hb.size⟩
theorem blk_fr {w : World} {g : Nat} {t : TypeId} {cs : Array Value} (h : w.heap[g]? = some (.cells cs t (0, 0))) (i : Nat) : w.frozen? ⟨g, i, none⟩ = false := by
  simp [World.frozen?, h]
theorem Grid.made (w : World) (F : Nat) (t : TypeId) : Grid w.heap.size F (fun _ _ => 0) (w.alloc (.cells (madeCells #[Value.int .i64 0, Value.int .i64 0, Value.int .i64 0, Value.int .i64 0, Value.int .i64 0, Value.int .i64 0] (F * 6)) t)) := by
  have hh := heap_alloc_new w (.cells (madeCells #[Value.int .i64 0, Value.int .i64 0, Value.int .i64 0, Value.int .i64 0, Value.int .i64 0, Value.int .i64 0] (F * 6)) t)
  refine ⟨fun k j hk hj => ?_, fun o ho => ?_, by simp⟩
  · rw [cell_of_row _ _ _ _ _ _ hh]
    exact made_cell _ _ (by omega)
  · exact blk_fr hh o
def six (w : World) (B k : Nat) (u : Nat → Int) : World := ((((((w.setCell ⟨B, k * 6, none⟩ (.int .i64 (u 0))).setCell ⟨B, k * 6 + 1, none⟩ (.int .i64 (u 1))).setCell ⟨B, k * 6 + 2, none⟩ (.int .i64 (u 2))).setCell ⟨B, k * 6 + 3, none⟩ (.int .i64 (u 3))).setCell ⟨B, k * 6 + 4, none⟩ (.int .i64 (u 4))).setCell ⟨B, k * 6 + 5, none⟩ (.int .i64 (u 5)))
theorem six_size (w : World) (B k : Nat) (u : Nat → Int) : (six w B k u).heap.size = w.heap.size := by
  unfold six
  simp only [World.size_setCell]
theorem six_heap (w : World) (B k g : Nat) (u : Nat → Int) (h : g ≠ B) : (six w B k u).heap[g]? = w.heap[g]? := by
  unfold six
  rw [Below.heap_setCell _ _ _ _ (show g ≠ B from h), Below.heap_setCell _ _ _ _ (show g ≠ B from h), Below.heap_setCell _ _ _ _ (show g ≠ B from h), Below.heap_setCell _ _ _ _ (show g ≠ B from h), Below.heap_setCell _ _ _ _ (show g ≠ B from h), Below.heap_setCell _ _ _ _ (show g ≠ B from h)]
theorem six_below {w0 w : World} {s B k : Nat} {u : Nat → Int} (h : Below s w0 w) (hs : s ≤ B) : Below s w0 (six w B k u) := by
  unfold six
  exact (((((h.setCell hs _).setCell hs _).setCell hs _).setCell hs _).setCell hs _).setCell hs _
theorem Grid.other {A F B k : Nat} {v : Nat → Nat → Int} {u : Nat → Int} {w : World} (h : Grid A F v w) (hne : A ≠ B) : Grid A F v (six w B k u) :=
  ⟨fun k' j hk hj => (World.cell?_of_block (w := w) (a := ⟨A, k' * 6 + j, none⟩) (six_heap w B k A u hne)).trans (h.c k' j hk hj), fun o ho => (World.frozen?_of_block (w := w) (a := ⟨A, o, none⟩) (six_heap w B k A u hne)).trans (h.f o ho), by rw [six_size]; exact h.l⟩
def putK (v : Nat → Nat → Int) (k : Nat) (u : Nat → Int) : Nat → Nat → Int := fun k' j => if k' = k then u j else v k' j
theorem ne_off {B i j : Nat} (h : i ≠ j) : (⟨B, i, none⟩ : Addr) ≠ ⟨B, j, none⟩ := fun e => h (by injection e)
theorem fz8 (w : World) (a b : Addr) (v : Value) : (w.setCell a v).frozen? b = w.frozen? b := by simp [go_sem]
theorem Grid.put {B F k : Nat} {v : Nat → Nat → Int} {u : Nat → Int} {w : World} (h : Grid B F v w) (hk : k < F) : Grid B F (putK v k u) (six w B k u) := by
  have hoth : ∀ k' j, k' ≠ k → j < 6 → (six w B k u).cell? ⟨B, k' * 6 + j, none⟩ = w.cell? ⟨B, k' * 6 + j, none⟩ := fun k' j hne hj => by
    unfold six
    rw [World.cell?_setCell_other _ _ _ _ (ne_off (by omega)), World.cell?_setCell_other _ _ _ _ (ne_off (by omega)), World.cell?_setCell_other _ _ _ _ (ne_off (by omega)), World.cell?_setCell_other _ _ _ _ (ne_off (by omega)), World.cell?_setCell_other _ _ _ _ (ne_off (by omega)), World.cell?_setCell_other _ _ _ _ (ne_off (by omega))]
  refine ⟨fun k' j hk' hj => ?_, fun o ho => by unfold six; simp only [fz8]; exact h.f o ho, by rw [six_size]; exact h.l⟩
  by_cases hkk : k' = k
  · subst hkk
    rw [show putK v k' u k' j = u j from if_pos rfl]
    have c := h.c k'
    match j, hj with
    | 0, _ =>
      unfold six
      rw [World.cell?_setCell_other _ _ _ _ (ne_off (by omega)), World.cell?_setCell_other _ _ _ _ (ne_off (by omega)), World.cell?_setCell_other _ _ _ _ (ne_off (by omega)), World.cell?_setCell_other _ _ _ _ (ne_off (by omega)), World.cell?_setCell_other _ _ _ _ (ne_off (by omega))]
      refine World.cell?_setCell_same _ _ _ (?_ : _ = some (.int .i64 (v k' 0)))
      exact c 0 hk' (by decide)
    | 1, _ =>
      unfold six
      rw [World.cell?_setCell_other _ _ _ _ (ne_off (by omega)), World.cell?_setCell_other _ _ _ _ (ne_off (by omega)), World.cell?_setCell_other _ _ _ _ (ne_off (by omega)), World.cell?_setCell_other _ _ _ _ (ne_off (by omega))]
      refine World.cell?_setCell_same _ _ _ (?_ : _ = some (.int .i64 (v k' 1)))
      rw [World.cell?_setCell_other _ _ _ _ (ne_off (by omega))]
      exact c 1 hk' (by decide)
    | 2, _ =>
      unfold six
      rw [World.cell?_setCell_other _ _ _ _ (ne_off (by omega)), World.cell?_setCell_other _ _ _ _ (ne_off (by omega)), World.cell?_setCell_other _ _ _ _ (ne_off (by omega))]
      refine World.cell?_setCell_same _ _ _ (?_ : _ = some (.int .i64 (v k' 2)))
      rw [World.cell?_setCell_other _ _ _ _ (ne_off (by omega)), World.cell?_setCell_other _ _ _ _ (ne_off (by omega))]
      exact c 2 hk' (by decide)
    | 3, _ =>
      unfold six
      rw [World.cell?_setCell_other _ _ _ _ (ne_off (by omega)), World.cell?_setCell_other _ _ _ _ (ne_off (by omega))]
      refine World.cell?_setCell_same _ _ _ (?_ : _ = some (.int .i64 (v k' 3)))
      rw [World.cell?_setCell_other _ _ _ _ (ne_off (by omega)), World.cell?_setCell_other _ _ _ _ (ne_off (by omega)), World.cell?_setCell_other _ _ _ _ (ne_off (by omega))]
      exact c 3 hk' (by decide)
    | 4, _ =>
      unfold six
      rw [World.cell?_setCell_other _ _ _ _ (ne_off (by omega))]
      refine World.cell?_setCell_same _ _ _ (?_ : _ = some (.int .i64 (v k' 4)))
      rw [World.cell?_setCell_other _ _ _ _ (ne_off (by omega)), World.cell?_setCell_other _ _ _ _ (ne_off (by omega)), World.cell?_setCell_other _ _ _ _ (ne_off (by omega)), World.cell?_setCell_other _ _ _ _ (ne_off (by omega))]
      exact c 4 hk' (by decide)
    | 5, _ =>
      unfold six
      refine World.cell?_setCell_same _ _ _ (?_ : _ = some (.int .i64 (v k' 5)))
      rw [World.cell?_setCell_other _ _ _ _ (ne_off (by omega)), World.cell?_setCell_other _ _ _ _ (ne_off (by omega)), World.cell?_setCell_other _ _ _ _ (ne_off (by omega)), World.cell?_setCell_other _ _ _ _ (ne_off (by omega)), World.cell?_setCell_other _ _ _ _ (ne_off (by omega))]
      exact c 5 hk' (by decide)
  · rw [hoth k' j hkk hj, show putK v k u k' j = v k' j from if_neg hkk]
    exact h.c k' j hk' hj
end Reads8
end Go.Proofs.Ytdjdpbgemdmpiaa

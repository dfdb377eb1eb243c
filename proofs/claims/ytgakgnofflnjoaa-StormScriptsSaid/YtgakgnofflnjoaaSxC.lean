/-
  A storm's script.
-/
import Derived.Test.YtgakgnofflnjoaaRows
import Derived.Test.YtgakgnofflnjoaaKit
import Derived.Test.YtgakgnofflnjoaaApp
import Derived.Test.YtgakgnofflnjoaaQuiet
import Derived.Test.YtgakgnofflnjoaaSt
import Derived.Test.YtgakgnofflnjoaaStA
import Derived.Test.YtgakgnofflnjoaaStT
import Derived.Test.YtgakgnofflnjoaaStK
import Derived.Test.YtgakgnofflnjoaaStR
import Derived.Test.YtgakgnofflnjoaaStL
import Derived.Test.YtgakgnofflnjoaaStS
import Derived.Test.YtgakgnofflnjoaaStM
import Derived.Test.YtgakgnofflnjoaaStV
import Derived.Test.YtgakgnofflnjoaaStD
import Derived.Test.YtgakgnofflnjoaaSxP
import Derived.Test.YtgakgnofflnjoaaSxA
import Derived.Test.YtgakgnofflnjoaaSxB
import Derived.Test.YtgakgnofflnjoaaSxT
import Derived.Test.YtgakgnofflnjoaaSxD
import Derived.Test.YtgakgnofflnjoaaSxK
import Derived.Test.YtgakgnofflnjoaaSxQ
import Derived.Test.YtgakgnofflnjoaaSxM
import Derived.Test.YtgakgnofflnjoaaSxL
import Derived.WalkKit
import Derived.ProofKit
import Derived.OpenShut
import Derived.ShutString
import Derived.Below
import Derived.Outline
import Derived.WalkLawsBesides
import Derived.WalkSpells
import Derived.Handy
import Derived.Deep.QuietTactic
import Derived.BigQuiet
import Derived.RegionTactic
import Derived.ChangeAlike
import Derived.Lib.Hide
import Derived.Laws.Rows
import Derived.Laws.Tables
import Derived.Laws.CopyOwn
import Derived.Laws.MakeOwn
import Derived.Laws.Entries
import Derived.Laws.OwnMore
import Derived.Deep.WholeRow
import Derived.Deep.LoopGhost
import Derived.Deep.AppendLies
import Derived.Deep.Draws
import Derived.Maps.AppendAt
import Derived.OwnWalk
import Derived.Deep.RegionHeld3
import Derived.Deep.Cut
import Derived.Deep.CutRange
import Derived.Deep.DeepCutAuto
import Derived.Deep.CutBlock
import Derived.Lib.SliceRun
import Derived.IntWalk
namespace Go.Proofs.Ytgakgnofflnjoaa
open Go.ChangeShapes Go.WideShapes Go.ChangeAt Go.RowKit
/-- How much is still to be written. -/
def todo (B : Nat) (most : Int) (w : World) : Nat := match w.cell? ⟨B, 17, none⟩ with
  | some (.slice _ n _) => most.toNat - n
  | _ => 0
theorem todo_is {B n c : Nat} {most : Int} {A : Option Addr} {w : World} (h : w.cell? ⟨B, 17, none⟩ = some (.slice A n c)) : todo B most w = most.toNat - n := by unfold todo; rw [h]
theorem start_far {w W2 : World} (B S I : Nat) (hw : w.heap.size ≤ W2.heap.size) (hB : W2.heap.size ≤ B ∧ B < W2.heap.size + 3) (hS : W2.heap.size ≤ S ∧ S < W2.heap.size + 3) (hI : W2.heap.size ≤ I ∧ I < W2.heap.size + 3) (h1 : B ≠ S) (h2 : B ≠ I) (h3 : S ≠ I) : Far w B S I (W2.heap.size + 3) :=
  ⟨by omega, by omega, by omega, by omega, by omega, by omega, h1, h2, h3⟩
theorem three (W : World) (a b c : Obj) : (((W.alloc a).alloc b).alloc c).heap[W.heap.size]? = some a ∧ (((W.alloc a).alloc b).alloc c).heap[W.heap.size + 1]? = some b ∧ (((W.alloc a).alloc b).alloc c).heap[W.heap.size + 2]? = some c := by
  have s1 : (W.alloc a).heap.size = W.heap.size + 1 := World.size_alloc ..
  have s2 : ((W.alloc a).alloc b).heap.size = W.heap.size + 2 := by rw [World.size_alloc, s1]
  refine ⟨?_, ?_, ?_⟩
  · exact (Below.heap_alloc _ c _ (by omega)).trans ((Below.heap_alloc _ b _ (by omega)).trans (heap_alloc_new W a))
  · exact (Below.heap_alloc _ c _ (by omega)).trans (by rw [← s1]; exact heap_alloc_new (W.alloc a) b)
  · rw [← s2]; exact heap_alloc_new _ c
theorem setCells_row (t : TypeId) (B : Nat) : ∀ (vs pre cs0 : List Value) (w : World), w.heap[B]? = some (.cells (pre ++ cs0).toArray t (0, 0)) → vs.length = cs0.length → (w.setCells B pre.length vs).heap[B]? = some (.cells (pre ++ vs).toArray t (0, 0))
  | [], pre, cs0, w, h, hl => by
    have : cs0 = [] := List.length_eq_zero_iff.1 hl.symm
    subst this
    exact h
  | v :: r, pre, cs0, w, h, hl => by
    obtain ⟨c, cs', rfl⟩ : ∃ c cs', cs0 = c :: cs' := List.exists_cons_of_ne_nil (by intro e; rw [e] at hl; cases hl)
    have h1 := blk_set h pre.length v
    have h2 : (pre ++ c :: cs').toArray.setIfInBounds pre.length v = ((pre ++ [v]) ++ cs').toArray := by
      rw [List.setIfInBounds_toArray, List.set_append_right _ _ (Nat.le_refl _), Nat.sub_self, List.set_cons_zero, List.append_assoc]
      rfl
    rw [h2] at h1
    have h3 := setCells_row t B r (pre ++ [v]) cs' _ h1 (by simpa using hl)
    rw [List.length_append] at h3
    rw [show pre ++ v :: r = pre ++ [v] ++ r from by rw [List.append_assoc]; rfl]
    exact h3
theorem there_row {B : Nat} {cs : Array Value} {t : TypeId} {w : World} (h : w.heap[B]? = some (.cells cs t (0, 0))) : w.there B 0 cs.size := fun j hj => by
  rw [Nat.zero_add]
  refine ⟨?_, blk_frozen h j⟩
  rw [cell_of_row _ _ _ _ _ _ h, Array.getElem?_eq_getElem hj]
  rfl
theorem wbl_one (S I np : Nat) (p c n b r f g ma mt md ms mp mw most : Int) : (List.toArray ([.int .i64 p, .int .i64 c, .int .i64 n, .int .i64 b, .int .i64 r, .int .i64 f, .int .i64 g, .pointer (some ⟨S, 0, none⟩), .int .i64 ma, .int .i64 mt, .int .i64 md, .int .i64 ms, .int .i64 mp, .int .i64 mw, .slice (some ⟨I, 0, none⟩) np np, .int .i64 0, .int .i64 most, .slice none 0 0] : List Value)).all (·.oneCell') = true := all_oneCell_toArray (by
  intro v hv
  simp only [List.mem_cons, List.not_mem_nil, or_false] at hv
  rcases hv with h | h | h | h | h | h | h | h | h | h | h | h | h | h | h | h | h | h <;> (subst h; rfl))
theorem infoW : (Try.prog.info? 64).map (·.size) = some 18 := by kernel_rfl
theorem setCells_far (B : Nat) (vs : List Value) (o : Nat) (w : World) (k : Nat) (h : k ≠ B) (hk : k < w.heap.size) : (w.setCells B o vs).heap[k]? = w.heap[k]? := (But.setCells B vs o w).o k hk h
theorem setCells_below {b B : Nat} {a w : World} (h : Below b a w) (hB : b ≤ B) : ∀ (vs : List Value) (o : Nat), Below b a (w.setCells B o vs)
  | [], _ => h
  | v :: r, o => setCells_below (h.setCell (p := ⟨B, o, none⟩) hB v) hB r (o + 1)
theorem start_there012 (seed : Int) (np : Nat) (W2 : World) : (((W2.alloc (.cells (List.toArray [Value.int .i64 0, Value.int .i64 0, Value.int .i64 0, Value.int .i64 0, Value.int .i64 0, Value.int .i64 0, Value.int .i64 0, .pointer none, .int .i64 0, .int .i64 0, .int .i64 0, .int .i64 0, .int .i64 0, .int .i64 0, .slice none 0 0, .int .i64 0, .int .i64 0, .slice none 0 0]) 64)).alloc (.cells #[.int .u64 seed] 82)).alloc (.cells (madeCells #[Value.int .i64 0] np) 3)).drew.there (W2.heap.size) 0 18 := by
  obtain ⟨h0, h1, h2⟩ := three W2 (.cells (List.toArray [Value.int .i64 0, Value.int .i64 0, Value.int .i64 0, Value.int .i64 0, Value.int .i64 0, Value.int .i64 0, Value.int .i64 0, .pointer none, .int .i64 0, .int .i64 0, .int .i64 0, .int .i64 0, .int .i64 0, .int .i64 0, .slice none 0 0, .int .i64 0, .int .i64 0, .slice none 0 0]) 64) (.cells #[.int .u64 seed] 82) (.cells (madeCells #[Value.int .i64 0] np) 3)
  exact there_row (w := (((W2.alloc (.cells (List.toArray [Value.int .i64 0, Value.int .i64 0, Value.int .i64 0, Value.int .i64 0, Value.int .i64 0, Value.int .i64 0, Value.int .i64 0, .pointer none, .int .i64 0, .int .i64 0, .int .i64 0, .int .i64 0, .int .i64 0, .int .i64 0, .slice none 0 0, .int .i64 0, .int .i64 0, .slice none 0 0]) 64)).alloc (.cells #[.int .u64 seed] 82)).alloc (.cells (madeCells #[Value.int .i64 0] np) 3)).drew) h0
theorem start_ws012 (p c n b r f g ma mt md ms mp mw seed most : Int) (np : Nat) (w W2 : World) (hb : Below w.heap.size w W2) : WS w ((((W2.alloc (.cells (List.toArray [Value.int .i64 0, Value.int .i64 0, Value.int .i64 0, Value.int .i64 0, Value.int .i64 0, Value.int .i64 0, Value.int .i64 0, .pointer none, .int .i64 0, .int .i64 0, .int .i64 0, .int .i64 0, .int .i64 0, .int .i64 0, .slice none 0 0, .int .i64 0, .int .i64 0, .slice none 0 0]) 64)).alloc (.cells #[.int .u64 seed] 82)).alloc (.cells (madeCells #[Value.int .i64 0] np) 3)).drew.setCells (W2.heap.size) 0 [.int .i64 p, .int .i64 c, .int .i64 n, .int .i64 b, .int .i64 r, .int .i64 f, .int .i64 g, .pointer (some ⟨W2.heap.size + 1, 0, none⟩), .int .i64 ma, .int .i64 mt, .int .i64 md, .int .i64 ms, .int .i64 mp, .int .i64 mw, .slice (some ⟨W2.heap.size + 2, 0, none⟩) np np, .int .i64 0, .int .i64 most, .slice none 0 0]) (W2.heap.size) (W2.heap.size + 1) (W2.heap.size + 2) (W2.heap.size + 3) np p c n b r f g ma mt md ms mp mw most (itS p c n b ma mt md ms mp mw seed 0).1.1 (itS p c n b ma mt md ms mp mw seed 0).1.2.1 (itS p c n b ma mt md ms mp mw seed 0).1.2.2 (.slice none 0 0) ((itS p c n b ma mt md ms mp mw seed 0).2.take most.toNat) := by
  obtain ⟨h0, h1, h2⟩ := three W2 (.cells (List.toArray [Value.int .i64 0, Value.int .i64 0, Value.int .i64 0, Value.int .i64 0, Value.int .i64 0, Value.int .i64 0, Value.int .i64 0, .pointer none, .int .i64 0, .int .i64 0, .int .i64 0, .int .i64 0, .int .i64 0, .int .i64 0, .slice none 0 0, .int .i64 0, .int .i64 0, .slice none 0 0]) 64) (.cells #[.int .u64 seed] 82) (.cells (madeCells #[Value.int .i64 0] np) 3)
  have hz : (((W2.alloc (.cells (List.toArray [Value.int .i64 0, Value.int .i64 0, Value.int .i64 0, Value.int .i64 0, Value.int .i64 0, Value.int .i64 0, Value.int .i64 0, .pointer none, .int .i64 0, .int .i64 0, .int .i64 0, .int .i64 0, .int .i64 0, .int .i64 0, .slice none 0 0, .int .i64 0, .int .i64 0, .slice none 0 0]) 64)).alloc (.cells #[.int .u64 seed] 82)).alloc (.cells (madeCells #[Value.int .i64 0] np) 3)).drew.heap.size = W2.heap.size + 3 := by show (((W2.alloc (.cells (List.toArray [Value.int .i64 0, Value.int .i64 0, Value.int .i64 0, Value.int .i64 0, Value.int .i64 0, Value.int .i64 0, Value.int .i64 0, .pointer none, .int .i64 0, .int .i64 0, .int .i64 0, .int .i64 0, .int .i64 0, .int .i64 0, .slice none 0 0, .int .i64 0, .int .i64 0, .slice none 0 0]) 64)).alloc (.cells #[.int .u64 seed] 82)).alloc (.cells (madeCells #[Value.int .i64 0] np) 3)).heap.size = _; rw [World.size_alloc, World.size_alloc, World.size_alloc]
  have hB := setCells_row 64 (W2.heap.size) [.int .i64 p, .int .i64 c, .int .i64 n, .int .i64 b, .int .i64 r, .int .i64 f, .int .i64 g, .pointer (some ⟨W2.heap.size + 1, 0, none⟩), .int .i64 ma, .int .i64 mt, .int .i64 md, .int .i64 ms, .int .i64 mp, .int .i64 mw, .slice (some ⟨W2.heap.size + 2, 0, none⟩) np np, .int .i64 0, .int .i64 most, .slice none 0 0] [] [Value.int .i64 0, Value.int .i64 0, Value.int .i64 0, Value.int .i64 0, Value.int .i64 0, Value.int .i64 0, Value.int .i64 0, .pointer none, .int .i64 0, .int .i64 0, .int .i64 0, .int .i64 0, .int .i64 0, .int .i64 0, .slice none 0 0, .int .i64 0, .int .i64 0, .slice none 0 0] (((W2.alloc (.cells (List.toArray [Value.int .i64 0, Value.int .i64 0, Value.int .i64 0, Value.int .i64 0, Value.int .i64 0, Value.int .i64 0, Value.int .i64 0, .pointer none, .int .i64 0, .int .i64 0, .int .i64 0, .int .i64 0, .int .i64 0, .int .i64 0, .slice none 0 0, .int .i64 0, .int .i64 0, .slice none 0 0]) 64)).alloc (.cells #[.int .u64 seed] 82)).alloc (.cells (madeCells #[Value.int .i64 0] np) 3)).drew h0 rfl
  have hS := (setCells_far (W2.heap.size) [.int .i64 p, .int .i64 c, .int .i64 n, .int .i64 b, .int .i64 r, .int .i64 f, .int .i64 g, .pointer (some ⟨W2.heap.size + 1, 0, none⟩), .int .i64 ma, .int .i64 mt, .int .i64 md, .int .i64 ms, .int .i64 mp, .int .i64 mw, .slice (some ⟨W2.heap.size + 2, 0, none⟩) np np, .int .i64 0, .int .i64 most, .slice none 0 0] 0 (((W2.alloc (.cells (List.toArray [Value.int .i64 0, Value.int .i64 0, Value.int .i64 0, Value.int .i64 0, Value.int .i64 0, Value.int .i64 0, Value.int .i64 0, .pointer none, .int .i64 0, .int .i64 0, .int .i64 0, .int .i64 0, .int .i64 0, .int .i64 0, .slice none 0 0, .int .i64 0, .int .i64 0, .slice none 0 0]) 64)).alloc (.cells #[.int .u64 seed] 82)).alloc (.cells (madeCells #[Value.int .i64 0] np) 3)).drew (W2.heap.size + 1) (by omega) (by rw [hz]; omega)).trans h1
  have hI := (setCells_far (W2.heap.size) [.int .i64 p, .int .i64 c, .int .i64 n, .int .i64 b, .int .i64 r, .int .i64 f, .int .i64 g, .pointer (some ⟨W2.heap.size + 1, 0, none⟩), .int .i64 ma, .int .i64 mt, .int .i64 md, .int .i64 ms, .int .i64 mp, .int .i64 mw, .slice (some ⟨W2.heap.size + 2, 0, none⟩) np np, .int .i64 0, .int .i64 most, .slice none 0 0] 0 (((W2.alloc (.cells (List.toArray [Value.int .i64 0, Value.int .i64 0, Value.int .i64 0, Value.int .i64 0, Value.int .i64 0, Value.int .i64 0, Value.int .i64 0, .pointer none, .int .i64 0, .int .i64 0, .int .i64 0, .int .i64 0, .int .i64 0, .int .i64 0, .slice none 0 0, .int .i64 0, .int .i64 0, .slice none 0 0]) 64)).alloc (.cells #[.int .u64 seed] 82)).alloc (.cells (madeCells #[Value.int .i64 0] np) 3)).drew (W2.heap.size + 2) (by omega) (by rw [hz]; omega)).trans h2
  have hbl : Below w.heap.size w (((W2.alloc (.cells (List.toArray [Value.int .i64 0, Value.int .i64 0, Value.int .i64 0, Value.int .i64 0, Value.int .i64 0, Value.int .i64 0, Value.int .i64 0, .pointer none, .int .i64 0, .int .i64 0, .int .i64 0, .int .i64 0, .int .i64 0, .int .i64 0, .slice none 0 0, .int .i64 0, .int .i64 0, .slice none 0 0]) 64)).alloc (.cells #[.int .u64 seed] 82)).alloc (.cells (madeCells #[Value.int .i64 0] np) 3)).drew := Below.drew (((hb.alloc hb.size _).alloc (by have := hb.size; rw [World.size_alloc]; omega) _).alloc (by have := hb.size; rw [World.size_alloc, World.size_alloc]; omega) _)
  rw [show (itS p c n b ma mt md ms mp mw seed 0).2.take most.toNat = ([] : List (List Int)) from List.take_nil]
  refine ⟨⟨_, hB⟩, ?_, ?_, ?_, ⟨rfl, .inl ⟨rfl, rfl⟩⟩, setCells_below hbl (by have := hb.size; omega) _ _, ?_⟩
  · exact (cell_of_row _ _ _ _ _ _ hS).trans rfl
  · exact blk_frozen hS 0
  · refine ⟨_, hI, by rw [size_madeCells], fun j hj => ?_⟩
    have h := toList_madeCells_one (.int .i64 0) np
    rw [← Array.getElem?_toList, h, List.getElem?_replicate, if_pos hj]
    rfl
  · exact Nat.le_trans (Nat.le_of_eq hz.symm) (But.setCells (W2.heap.size) [.int .i64 p, .int .i64 c, .int .i64 n, .int .i64 b, .int .i64 r, .int .i64 f, .int .i64 g, .pointer (some ⟨W2.heap.size + 1, 0, none⟩), .int .i64 ma, .int .i64 mt, .int .i64 md, .int .i64 ms, .int .i64 mp, .int .i64 mw, .slice (some ⟨W2.heap.size + 2, 0, none⟩) np np, .int .i64 0, .int .i64 most, .slice none 0 0] 0 (((W2.alloc (.cells (List.toArray [Value.int .i64 0, Value.int .i64 0, Value.int .i64 0, Value.int .i64 0, Value.int .i64 0, Value.int .i64 0, Value.int .i64 0, .pointer none, .int .i64 0, .int .i64 0, .int .i64 0, .int .i64 0, .int .i64 0, .int .i64 0, .slice none 0 0, .int .i64 0, .int .i64 0, .slice none 0 0]) 64)).alloc (.cells #[.int .u64 seed] 82)).alloc (.cells (madeCells #[Value.int .i64 0] np) 3)).drew).size
theorem start_there021 (seed : Int) (np : Nat) (W2 : World) : (((W2.alloc (.cells (List.toArray [Value.int .i64 0, Value.int .i64 0, Value.int .i64 0, Value.int .i64 0, Value.int .i64 0, Value.int .i64 0, Value.int .i64 0, .pointer none, .int .i64 0, .int .i64 0, .int .i64 0, .int .i64 0, .int .i64 0, .int .i64 0, .slice none 0 0, .int .i64 0, .int .i64 0, .slice none 0 0]) 64)).alloc (.cells (madeCells #[Value.int .i64 0] np) 3)).alloc (.cells #[.int .u64 seed] 82)).drew.there (W2.heap.size) 0 18 := by
  obtain ⟨h0, h1, h2⟩ := three W2 (.cells (List.toArray [Value.int .i64 0, Value.int .i64 0, Value.int .i64 0, Value.int .i64 0, Value.int .i64 0, Value.int .i64 0, Value.int .i64 0, .pointer none, .int .i64 0, .int .i64 0, .int .i64 0, .int .i64 0, .int .i64 0, .int .i64 0, .slice none 0 0, .int .i64 0, .int .i64 0, .slice none 0 0]) 64) (.cells (madeCells #[Value.int .i64 0] np) 3) (.cells #[.int .u64 seed] 82)
  exact there_row (w := (((W2.alloc (.cells (List.toArray [Value.int .i64 0, Value.int .i64 0, Value.int .i64 0, Value.int .i64 0, Value.int .i64 0, Value.int .i64 0, Value.int .i64 0, .pointer none, .int .i64 0, .int .i64 0, .int .i64 0, .int .i64 0, .int .i64 0, .int .i64 0, .slice none 0 0, .int .i64 0, .int .i64 0, .slice none 0 0]) 64)).alloc (.cells (madeCells #[Value.int .i64 0] np) 3)).alloc (.cells #[.int .u64 seed] 82)).drew) h0
theorem start_ws021 (p c n b r f g ma mt md ms mp mw seed most : Int) (np : Nat) (w W2 : World) (hb : Below w.heap.size w W2) : WS w ((((W2.alloc (.cells (List.toArray [Value.int .i64 0, Value.int .i64 0, Value.int .i64 0, Value.int .i64 0, Value.int .i64 0, Value.int .i64 0, Value.int .i64 0, .pointer none, .int .i64 0, .int .i64 0, .int .i64 0, .int .i64 0, .int .i64 0, .int .i64 0, .slice none 0 0, .int .i64 0, .int .i64 0, .slice none 0 0]) 64)).alloc (.cells (madeCells #[Value.int .i64 0] np) 3)).alloc (.cells #[.int .u64 seed] 82)).drew.setCells (W2.heap.size) 0 [.int .i64 p, .int .i64 c, .int .i64 n, .int .i64 b, .int .i64 r, .int .i64 f, .int .i64 g, .pointer (some ⟨W2.heap.size + 2, 0, none⟩), .int .i64 ma, .int .i64 mt, .int .i64 md, .int .i64 ms, .int .i64 mp, .int .i64 mw, .slice (some ⟨W2.heap.size + 1, 0, none⟩) np np, .int .i64 0, .int .i64 most, .slice none 0 0]) (W2.heap.size) (W2.heap.size + 2) (W2.heap.size + 1) (W2.heap.size + 3) np p c n b r f g ma mt md ms mp mw most (itS p c n b ma mt md ms mp mw seed 0).1.1 (itS p c n b ma mt md ms mp mw seed 0).1.2.1 (itS p c n b ma mt md ms mp mw seed 0).1.2.2 (.slice none 0 0) ((itS p c n b ma mt md ms mp mw seed 0).2.take most.toNat) := by
  obtain ⟨h0, h1, h2⟩ := three W2 (.cells (List.toArray [Value.int .i64 0, Value.int .i64 0, Value.int .i64 0, Value.int .i64 0, Value.int .i64 0, Value.int .i64 0, Value.int .i64 0, .pointer none, .int .i64 0, .int .i64 0, .int .i64 0, .int .i64 0, .int .i64 0, .int .i64 0, .slice none 0 0, .int .i64 0, .int .i64 0, .slice none 0 0]) 64) (.cells (madeCells #[Value.int .i64 0] np) 3) (.cells #[.int .u64 seed] 82)
  have hz : (((W2.alloc (.cells (List.toArray [Value.int .i64 0, Value.int .i64 0, Value.int .i64 0, Value.int .i64 0, Value.int .i64 0, Value.int .i64 0, Value.int .i64 0, .pointer none, .int .i64 0, .int .i64 0, .int .i64 0, .int .i64 0, .int .i64 0, .int .i64 0, .slice none 0 0, .int .i64 0, .int .i64 0, .slice none 0 0]) 64)).alloc (.cells (madeCells #[Value.int .i64 0] np) 3)).alloc (.cells #[.int .u64 seed] 82)).drew.heap.size = W2.heap.size + 3 := by show (((W2.alloc (.cells (List.toArray [Value.int .i64 0, Value.int .i64 0, Value.int .i64 0, Value.int .i64 0, Value.int .i64 0, Value.int .i64 0, Value.int .i64 0, .pointer none, .int .i64 0, .int .i64 0, .int .i64 0, .int .i64 0, .int .i64 0, .int .i64 0, .slice none 0 0, .int .i64 0, .int .i64 0, .slice none 0 0]) 64)).alloc (.cells (madeCells #[Value.int .i64 0] np) 3)).alloc (.cells #[.int .u64 seed] 82)).heap.size = _; rw [World.size_alloc, World.size_alloc, World.size_alloc]
  have hB := setCells_row 64 (W2.heap.size) [.int .i64 p, .int .i64 c, .int .i64 n, .int .i64 b, .int .i64 r, .int .i64 f, .int .i64 g, .pointer (some ⟨W2.heap.size + 2, 0, none⟩), .int .i64 ma, .int .i64 mt, .int .i64 md, .int .i64 ms, .int .i64 mp, .int .i64 mw, .slice (some ⟨W2.heap.size + 1, 0, none⟩) np np, .int .i64 0, .int .i64 most, .slice none 0 0] [] [Value.int .i64 0, Value.int .i64 0, Value.int .i64 0, Value.int .i64 0, Value.int .i64 0, Value.int .i64 0, Value.int .i64 0, .pointer none, .int .i64 0, .int .i64 0, .int .i64 0, .int .i64 0, .int .i64 0, .int .i64 0, .slice none 0 0, .int .i64 0, .int .i64 0, .slice none 0 0] (((W2.alloc (.cells (List.toArray [Value.int .i64 0, Value.int .i64 0, Value.int .i64 0, Value.int .i64 0, Value.int .i64 0, Value.int .i64 0, Value.int .i64 0, .pointer none, .int .i64 0, .int .i64 0, .int .i64 0, .int .i64 0, .int .i64 0, .int .i64 0, .slice none 0 0, .int .i64 0, .int .i64 0, .slice none 0 0]) 64)).alloc (.cells (madeCells #[Value.int .i64 0] np) 3)).alloc (.cells #[.int .u64 seed] 82)).drew h0 rfl
  have hS := (setCells_far (W2.heap.size) [.int .i64 p, .int .i64 c, .int .i64 n, .int .i64 b, .int .i64 r, .int .i64 f, .int .i64 g, .pointer (some ⟨W2.heap.size + 2, 0, none⟩), .int .i64 ma, .int .i64 mt, .int .i64 md, .int .i64 ms, .int .i64 mp, .int .i64 mw, .slice (some ⟨W2.heap.size + 1, 0, none⟩) np np, .int .i64 0, .int .i64 most, .slice none 0 0] 0 (((W2.alloc (.cells (List.toArray [Value.int .i64 0, Value.int .i64 0, Value.int .i64 0, Value.int .i64 0, Value.int .i64 0, Value.int .i64 0, Value.int .i64 0, .pointer none, .int .i64 0, .int .i64 0, .int .i64 0, .int .i64 0, .int .i64 0, .int .i64 0, .slice none 0 0, .int .i64 0, .int .i64 0, .slice none 0 0]) 64)).alloc (.cells (madeCells #[Value.int .i64 0] np) 3)).alloc (.cells #[.int .u64 seed] 82)).drew (W2.heap.size + 2) (by omega) (by rw [hz]; omega)).trans h2
  have hI := (setCells_far (W2.heap.size) [.int .i64 p, .int .i64 c, .int .i64 n, .int .i64 b, .int .i64 r, .int .i64 f, .int .i64 g, .pointer (some ⟨W2.heap.size + 2, 0, none⟩), .int .i64 ma, .int .i64 mt, .int .i64 md, .int .i64 ms, .int .i64 mp, .int .i64 mw, .slice (some ⟨W2.heap.size + 1, 0, none⟩) np np, .int .i64 0, .int .i64 most, .slice none 0 0] 0 (((W2.alloc (.cells (List.toArray [Value.int .i64 0, Value.int .i64 0, Value.int .i64 0, Value.int .i64 0, Value.int .i64 0, Value.int .i64 0, Value.int .i64 0, .pointer none, .int .i64 0, .int .i64 0, .int .i64 0, .int .i64 0, .int .i64 0, .int .i64 0, .slice none 0 0, .int .i64 0, .int .i64 0, .slice none 0 0]) 64)).alloc (.cells (madeCells #[Value.int .i64 0] np) 3)).alloc (.cells #[.int .u64 seed] 82)).drew (W2.heap.size + 1) (by omega) (by rw [hz]; omega)).trans h1
  have hbl : Below w.heap.size w (((W2.alloc (.cells (List.toArray [Value.int .i64 0, Value.int .i64 0, Value.int .i64 0, Value.int .i64 0, Value.int .i64 0, Value.int .i64 0, Value.int .i64 0, .pointer none, .int .i64 0, .int .i64 0, .int .i64 0, .int .i64 0, .int .i64 0, .int .i64 0, .slice none 0 0, .int .i64 0, .int .i64 0, .slice none 0 0]) 64)).alloc (.cells (madeCells #[Value.int .i64 0] np) 3)).alloc (.cells #[.int .u64 seed] 82)).drew := Below.drew (((hb.alloc hb.size _).alloc (by have := hb.size; rw [World.size_alloc]; omega) _).alloc (by have := hb.size; rw [World.size_alloc, World.size_alloc]; omega) _)
  rw [show (itS p c n b ma mt md ms mp mw seed 0).2.take most.toNat = ([] : List (List Int)) from List.take_nil]
  refine ⟨⟨_, hB⟩, ?_, ?_, ?_, ⟨rfl, .inl ⟨rfl, rfl⟩⟩, setCells_below hbl (by have := hb.size; omega) _ _, ?_⟩
  · exact (cell_of_row _ _ _ _ _ _ hS).trans rfl
  · exact blk_frozen hS 0
  · refine ⟨_, hI, by rw [size_madeCells], fun j hj => ?_⟩
    have h := toList_madeCells_one (.int .i64 0) np
    rw [← Array.getElem?_toList, h, List.getElem?_replicate, if_pos hj]
    rfl
  · exact Nat.le_trans (Nat.le_of_eq hz.symm) (But.setCells (W2.heap.size) [.int .i64 p, .int .i64 c, .int .i64 n, .int .i64 b, .int .i64 r, .int .i64 f, .int .i64 g, .pointer (some ⟨W2.heap.size + 2, 0, none⟩), .int .i64 ma, .int .i64 mt, .int .i64 md, .int .i64 ms, .int .i64 mp, .int .i64 mw, .slice (some ⟨W2.heap.size + 1, 0, none⟩) np np, .int .i64 0, .int .i64 most, .slice none 0 0] 0 (((W2.alloc (.cells (List.toArray [Value.int .i64 0, Value.int .i64 0, Value.int .i64 0, Value.int .i64 0, Value.int .i64 0, Value.int .i64 0, Value.int .i64 0, .pointer none, .int .i64 0, .int .i64 0, .int .i64 0, .int .i64 0, .int .i64 0, .int .i64 0, .slice none 0 0, .int .i64 0, .int .i64 0, .slice none 0 0]) 64)).alloc (.cells (madeCells #[Value.int .i64 0] np) 3)).alloc (.cells #[.int .u64 seed] 82)).drew).size
theorem start_there102 (seed : Int) (np : Nat) (W2 : World) : (((W2.alloc (.cells #[.int .u64 seed] 82)).alloc (.cells (List.toArray [Value.int .i64 0, Value.int .i64 0, Value.int .i64 0, Value.int .i64 0, Value.int .i64 0, Value.int .i64 0, Value.int .i64 0, .pointer none, .int .i64 0, .int .i64 0, .int .i64 0, .int .i64 0, .int .i64 0, .int .i64 0, .slice none 0 0, .int .i64 0, .int .i64 0, .slice none 0 0]) 64)).alloc (.cells (madeCells #[Value.int .i64 0] np) 3)).drew.there (W2.heap.size + 1) 0 18 := by
  obtain ⟨h0, h1, h2⟩ := three W2 (.cells #[.int .u64 seed] 82) (.cells (List.toArray [Value.int .i64 0, Value.int .i64 0, Value.int .i64 0, Value.int .i64 0, Value.int .i64 0, Value.int .i64 0, Value.int .i64 0, .pointer none, .int .i64 0, .int .i64 0, .int .i64 0, .int .i64 0, .int .i64 0, .int .i64 0, .slice none 0 0, .int .i64 0, .int .i64 0, .slice none 0 0]) 64) (.cells (madeCells #[Value.int .i64 0] np) 3)
  exact there_row (w := (((W2.alloc (.cells #[.int .u64 seed] 82)).alloc (.cells (List.toArray [Value.int .i64 0, Value.int .i64 0, Value.int .i64 0, Value.int .i64 0, Value.int .i64 0, Value.int .i64 0, Value.int .i64 0, .pointer none, .int .i64 0, .int .i64 0, .int .i64 0, .int .i64 0, .int .i64 0, .int .i64 0, .slice none 0 0, .int .i64 0, .int .i64 0, .slice none 0 0]) 64)).alloc (.cells (madeCells #[Value.int .i64 0] np) 3)).drew) h1
theorem start_ws102 (p c n b r f g ma mt md ms mp mw seed most : Int) (np : Nat) (w W2 : World) (hb : Below w.heap.size w W2) : WS w ((((W2.alloc (.cells #[.int .u64 seed] 82)).alloc (.cells (List.toArray [Value.int .i64 0, Value.int .i64 0, Value.int .i64 0, Value.int .i64 0, Value.int .i64 0, Value.int .i64 0, Value.int .i64 0, .pointer none, .int .i64 0, .int .i64 0, .int .i64 0, .int .i64 0, .int .i64 0, .int .i64 0, .slice none 0 0, .int .i64 0, .int .i64 0, .slice none 0 0]) 64)).alloc (.cells (madeCells #[Value.int .i64 0] np) 3)).drew.setCells (W2.heap.size + 1) 0 [.int .i64 p, .int .i64 c, .int .i64 n, .int .i64 b, .int .i64 r, .int .i64 f, .int .i64 g, .pointer (some ⟨W2.heap.size, 0, none⟩), .int .i64 ma, .int .i64 mt, .int .i64 md, .int .i64 ms, .int .i64 mp, .int .i64 mw, .slice (some ⟨W2.heap.size + 2, 0, none⟩) np np, .int .i64 0, .int .i64 most, .slice none 0 0]) (W2.heap.size + 1) (W2.heap.size) (W2.heap.size + 2) (W2.heap.size + 3) np p c n b r f g ma mt md ms mp mw most (itS p c n b ma mt md ms mp mw seed 0).1.1 (itS p c n b ma mt md ms mp mw seed 0).1.2.1 (itS p c n b ma mt md ms mp mw seed 0).1.2.2 (.slice none 0 0) ((itS p c n b ma mt md ms mp mw seed 0).2.take most.toNat) := by
  obtain ⟨h0, h1, h2⟩ := three W2 (.cells #[.int .u64 seed] 82) (.cells (List.toArray [Value.int .i64 0, Value.int .i64 0, Value.int .i64 0, Value.int .i64 0, Value.int .i64 0, Value.int .i64 0, Value.int .i64 0, .pointer none, .int .i64 0, .int .i64 0, .int .i64 0, .int .i64 0, .int .i64 0, .int .i64 0, .slice none 0 0, .int .i64 0, .int .i64 0, .slice none 0 0]) 64) (.cells (madeCells #[Value.int .i64 0] np) 3)
  have hz : (((W2.alloc (.cells #[.int .u64 seed] 82)).alloc (.cells (List.toArray [Value.int .i64 0, Value.int .i64 0, Value.int .i64 0, Value.int .i64 0, Value.int .i64 0, Value.int .i64 0, Value.int .i64 0, .pointer none, .int .i64 0, .int .i64 0, .int .i64 0, .int .i64 0, .int .i64 0, .int .i64 0, .slice none 0 0, .int .i64 0, .int .i64 0, .slice none 0 0]) 64)).alloc (.cells (madeCells #[Value.int .i64 0] np) 3)).drew.heap.size = W2.heap.size + 3 := by show (((W2.alloc (.cells #[.int .u64 seed] 82)).alloc (.cells (List.toArray [Value.int .i64 0, Value.int .i64 0, Value.int .i64 0, Value.int .i64 0, Value.int .i64 0, Value.int .i64 0, Value.int .i64 0, .pointer none, .int .i64 0, .int .i64 0, .int .i64 0, .int .i64 0, .int .i64 0, .int .i64 0, .slice none 0 0, .int .i64 0, .int .i64 0, .slice none 0 0]) 64)).alloc (.cells (madeCells #[Value.int .i64 0] np) 3)).heap.size = _; rw [World.size_alloc, World.size_alloc, World.size_alloc]
  have hB := setCells_row 64 (W2.heap.size + 1) [.int .i64 p, .int .i64 c, .int .i64 n, .int .i64 b, .int .i64 r, .int .i64 f, .int .i64 g, .pointer (some ⟨W2.heap.size, 0, none⟩), .int .i64 ma, .int .i64 mt, .int .i64 md, .int .i64 ms, .int .i64 mp, .int .i64 mw, .slice (some ⟨W2.heap.size + 2, 0, none⟩) np np, .int .i64 0, .int .i64 most, .slice none 0 0] [] [Value.int .i64 0, Value.int .i64 0, Value.int .i64 0, Value.int .i64 0, Value.int .i64 0, Value.int .i64 0, Value.int .i64 0, .pointer none, .int .i64 0, .int .i64 0, .int .i64 0, .int .i64 0, .int .i64 0, .int .i64 0, .slice none 0 0, .int .i64 0, .int .i64 0, .slice none 0 0] (((W2.alloc (.cells #[.int .u64 seed] 82)).alloc (.cells (List.toArray [Value.int .i64 0, Value.int .i64 0, Value.int .i64 0, Value.int .i64 0, Value.int .i64 0, Value.int .i64 0, Value.int .i64 0, .pointer none, .int .i64 0, .int .i64 0, .int .i64 0, .int .i64 0, .int .i64 0, .int .i64 0, .slice none 0 0, .int .i64 0, .int .i64 0, .slice none 0 0]) 64)).alloc (.cells (madeCells #[Value.int .i64 0] np) 3)).drew h1 rfl
  have hS := (setCells_far (W2.heap.size + 1) [.int .i64 p, .int .i64 c, .int .i64 n, .int .i64 b, .int .i64 r, .int .i64 f, .int .i64 g, .pointer (some ⟨W2.heap.size, 0, none⟩), .int .i64 ma, .int .i64 mt, .int .i64 md, .int .i64 ms, .int .i64 mp, .int .i64 mw, .slice (some ⟨W2.heap.size + 2, 0, none⟩) np np, .int .i64 0, .int .i64 most, .slice none 0 0] 0 (((W2.alloc (.cells #[.int .u64 seed] 82)).alloc (.cells (List.toArray [Value.int .i64 0, Value.int .i64 0, Value.int .i64 0, Value.int .i64 0, Value.int .i64 0, Value.int .i64 0, Value.int .i64 0, .pointer none, .int .i64 0, .int .i64 0, .int .i64 0, .int .i64 0, .int .i64 0, .int .i64 0, .slice none 0 0, .int .i64 0, .int .i64 0, .slice none 0 0]) 64)).alloc (.cells (madeCells #[Value.int .i64 0] np) 3)).drew (W2.heap.size) (by omega) (by rw [hz]; omega)).trans h0
  have hI := (setCells_far (W2.heap.size + 1) [.int .i64 p, .int .i64 c, .int .i64 n, .int .i64 b, .int .i64 r, .int .i64 f, .int .i64 g, .pointer (some ⟨W2.heap.size, 0, none⟩), .int .i64 ma, .int .i64 mt, .int .i64 md, .int .i64 ms, .int .i64 mp, .int .i64 mw, .slice (some ⟨W2.heap.size + 2, 0, none⟩) np np, .int .i64 0, .int .i64 most, .slice none 0 0] 0 (((W2.alloc (.cells #[.int .u64 seed] 82)).alloc (.cells (List.toArray [Value.int .i64 0, Value.int .i64 0, Value.int .i64 0, Value.int .i64 0, Value.int .i64 0, Value.int .i64 0, Value.int .i64 0, .pointer none, .int .i64 0, .int .i64 0, .int .i64 0, .int .i64 0, .int .i64 0, .int .i64 0, .slice none 0 0, .int .i64 0, .int .i64 0, .slice none 0 0]) 64)).alloc (.cells (madeCells #[Value.int .i64 0] np) 3)).drew (W2.heap.size + 2) (by omega) (by rw [hz]; omega)).trans h2
  have hbl : Below w.heap.size w (((W2.alloc (.cells #[.int .u64 seed] 82)).alloc (.cells (List.toArray [Value.int .i64 0, Value.int .i64 0, Value.int .i64 0, Value.int .i64 0, Value.int .i64 0, Value.int .i64 0, Value.int .i64 0, .pointer none, .int .i64 0, .int .i64 0, .int .i64 0, .int .i64 0, .int .i64 0, .int .i64 0, .slice none 0 0, .int .i64 0, .int .i64 0, .slice none 0 0]) 64)).alloc (.cells (madeCells #[Value.int .i64 0] np) 3)).drew := Below.drew (((hb.alloc hb.size _).alloc (by have := hb.size; rw [World.size_alloc]; omega) _).alloc (by have := hb.size; rw [World.size_alloc, World.size_alloc]; omega) _)
  rw [show (itS p c n b ma mt md ms mp mw seed 0).2.take most.toNat = ([] : List (List Int)) from List.take_nil]
  refine ⟨⟨_, hB⟩, ?_, ?_, ?_, ⟨rfl, .inl ⟨rfl, rfl⟩⟩, setCells_below hbl (by have := hb.size; omega) _ _, ?_⟩
  · exact (cell_of_row _ _ _ _ _ _ hS).trans rfl
  · exact blk_frozen hS 0
  · refine ⟨_, hI, by rw [size_madeCells], fun j hj => ?_⟩
    have h := toList_madeCells_one (.int .i64 0) np
    rw [← Array.getElem?_toList, h, List.getElem?_replicate, if_pos hj]
    rfl
  · exact Nat.le_trans (Nat.le_of_eq hz.symm) (But.setCells (W2.heap.size + 1) [.int .i64 p, .int .i64 c, .int .i64 n, .int .i64 b, .int .i64 r, .int .i64 f, .int .i64 g, .pointer (some ⟨W2.heap.size, 0, none⟩), .int .i64 ma, .int .i64 mt, .int .i64 md, .int .i64 ms, .int .i64 mp, .int .i64 mw, .slice (some ⟨W2.heap.size + 2, 0, none⟩) np np, .int .i64 0, .int .i64 most, .slice none 0 0] 0 (((W2.alloc (.cells #[.int .u64 seed] 82)).alloc (.cells (List.toArray [Value.int .i64 0, Value.int .i64 0, Value.int .i64 0, Value.int .i64 0, Value.int .i64 0, Value.int .i64 0, Value.int .i64 0, .pointer none, .int .i64 0, .int .i64 0, .int .i64 0, .int .i64 0, .int .i64 0, .int .i64 0, .slice none 0 0, .int .i64 0, .int .i64 0, .slice none 0 0]) 64)).alloc (.cells (madeCells #[Value.int .i64 0] np) 3)).drew).size
theorem start_there201 (seed : Int) (np : Nat) (W2 : World) : (((W2.alloc (.cells #[.int .u64 seed] 82)).alloc (.cells (madeCells #[Value.int .i64 0] np) 3)).alloc (.cells (List.toArray [Value.int .i64 0, Value.int .i64 0, Value.int .i64 0, Value.int .i64 0, Value.int .i64 0, Value.int .i64 0, Value.int .i64 0, .pointer none, .int .i64 0, .int .i64 0, .int .i64 0, .int .i64 0, .int .i64 0, .int .i64 0, .slice none 0 0, .int .i64 0, .int .i64 0, .slice none 0 0]) 64)).drew.there (W2.heap.size + 2) 0 18 := by
  obtain ⟨h0, h1, h2⟩ := three W2 (.cells #[.int .u64 seed] 82) (.cells (madeCells #[Value.int .i64 0] np) 3) (.cells (List.toArray [Value.int .i64 0, Value.int .i64 0, Value.int .i64 0, Value.int .i64 0, Value.int .i64 0, Value.int .i64 0, Value.int .i64 0, .pointer none, .int .i64 0, .int .i64 0, .int .i64 0, .int .i64 0, .int .i64 0, .int .i64 0, .slice none 0 0, .int .i64 0, .int .i64 0, .slice none 0 0]) 64)
  exact there_row (w := (((W2.alloc (.cells #[.int .u64 seed] 82)).alloc (.cells (madeCells #[Value.int .i64 0] np) 3)).alloc (.cells (List.toArray [Value.int .i64 0, Value.int .i64 0, Value.int .i64 0, Value.int .i64 0, Value.int .i64 0, Value.int .i64 0, Value.int .i64 0, .pointer none, .int .i64 0, .int .i64 0, .int .i64 0, .int .i64 0, .int .i64 0, .int .i64 0, .slice none 0 0, .int .i64 0, .int .i64 0, .slice none 0 0]) 64)).drew) h2
theorem start_ws201 (p c n b r f g ma mt md ms mp mw seed most : Int) (np : Nat) (w W2 : World) (hb : Below w.heap.size w W2) : WS w ((((W2.alloc (.cells #[.int .u64 seed] 82)).alloc (.cells (madeCells #[Value.int .i64 0] np) 3)).alloc (.cells (List.toArray [Value.int .i64 0, Value.int .i64 0, Value.int .i64 0, Value.int .i64 0, Value.int .i64 0, Value.int .i64 0, Value.int .i64 0, .pointer none, .int .i64 0, .int .i64 0, .int .i64 0, .int .i64 0, .int .i64 0, .int .i64 0, .slice none 0 0, .int .i64 0, .int .i64 0, .slice none 0 0]) 64)).drew.setCells (W2.heap.size + 2) 0 [.int .i64 p, .int .i64 c, .int .i64 n, .int .i64 b, .int .i64 r, .int .i64 f, .int .i64 g, .pointer (some ⟨W2.heap.size, 0, none⟩), .int .i64 ma, .int .i64 mt, .int .i64 md, .int .i64 ms, .int .i64 mp, .int .i64 mw, .slice (some ⟨W2.heap.size + 1, 0, none⟩) np np, .int .i64 0, .int .i64 most, .slice none 0 0]) (W2.heap.size + 2) (W2.heap.size) (W2.heap.size + 1) (W2.heap.size + 3) np p c n b r f g ma mt md ms mp mw most (itS p c n b ma mt md ms mp mw seed 0).1.1 (itS p c n b ma mt md ms mp mw seed 0).1.2.1 (itS p c n b ma mt md ms mp mw seed 0).1.2.2 (.slice none 0 0) ((itS p c n b ma mt md ms mp mw seed 0).2.take most.toNat) := by
  obtain ⟨h0, h1, h2⟩ := three W2 (.cells #[.int .u64 seed] 82) (.cells (madeCells #[Value.int .i64 0] np) 3) (.cells (List.toArray [Value.int .i64 0, Value.int .i64 0, Value.int .i64 0, Value.int .i64 0, Value.int .i64 0, Value.int .i64 0, Value.int .i64 0, .pointer none, .int .i64 0, .int .i64 0, .int .i64 0, .int .i64 0, .int .i64 0, .int .i64 0, .slice none 0 0, .int .i64 0, .int .i64 0, .slice none 0 0]) 64)
  have hz : (((W2.alloc (.cells #[.int .u64 seed] 82)).alloc (.cells (madeCells #[Value.int .i64 0] np) 3)).alloc (.cells (List.toArray [Value.int .i64 0, Value.int .i64 0, Value.int .i64 0, Value.int .i64 0, Value.int .i64 0, Value.int .i64 0, Value.int .i64 0, .pointer none, .int .i64 0, .int .i64 0, .int .i64 0, .int .i64 0, .int .i64 0, .int .i64 0, .slice none 0 0, .int .i64 0, .int .i64 0, .slice none 0 0]) 64)).drew.heap.size = W2.heap.size + 3 := by show (((W2.alloc (.cells #[.int .u64 seed] 82)).alloc (.cells (madeCells #[Value.int .i64 0] np) 3)).alloc (.cells (List.toArray [Value.int .i64 0, Value.int .i64 0, Value.int .i64 0, Value.int .i64 0, Value.int .i64 0, Value.int .i64 0, Value.int .i64 0, .pointer none, .int .i64 0, .int .i64 0, .int .i64 0, .int .i64 0, .int .i64 0, .int .i64 0, .slice none 0 0, .int .i64 0, .int .i64 0, .slice none 0 0]) 64)).heap.size = _; rw [World.size_alloc, World.size_alloc, World.size_alloc]
  have hB := setCells_row 64 (W2.heap.size + 2) [.int .i64 p, .int .i64 c, .int .i64 n, .int .i64 b, .int .i64 r, .int .i64 f, .int .i64 g, .pointer (some ⟨W2.heap.size, 0, none⟩), .int .i64 ma, .int .i64 mt, .int .i64 md, .int .i64 ms, .int .i64 mp, .int .i64 mw, .slice (some ⟨W2.heap.size + 1, 0, none⟩) np np, .int .i64 0, .int .i64 most, .slice none 0 0] [] [Value.int .i64 0, Value.int .i64 0, Value.int .i64 0, Value.int .i64 0, Value.int .i64 0, Value.int .i64 0, Value.int .i64 0, .pointer none, .int .i64 0, .int .i64 0, .int .i64 0, .int .i64 0, .int .i64 0, .int .i64 0, .slice none 0 0, .int .i64 0, .int .i64 0, .slice none 0 0] (((W2.alloc (.cells #[.int .u64 seed] 82)).alloc (.cells (madeCells #[Value.int .i64 0] np) 3)).alloc (.cells (List.toArray [Value.int .i64 0, Value.int .i64 0, Value.int .i64 0, Value.int .i64 0, Value.int .i64 0, Value.int .i64 0, Value.int .i64 0, .pointer none, .int .i64 0, .int .i64 0, .int .i64 0, .int .i64 0, .int .i64 0, .int .i64 0, .slice none 0 0, .int .i64 0, .int .i64 0, .slice none 0 0]) 64)).drew h2 rfl
  have hS := (setCells_far (W2.heap.size + 2) [.int .i64 p, .int .i64 c, .int .i64 n, .int .i64 b, .int .i64 r, .int .i64 f, .int .i64 g, .pointer (some ⟨W2.heap.size, 0, none⟩), .int .i64 ma, .int .i64 mt, .int .i64 md, .int .i64 ms, .int .i64 mp, .int .i64 mw, .slice (some ⟨W2.heap.size + 1, 0, none⟩) np np, .int .i64 0, .int .i64 most, .slice none 0 0] 0 (((W2.alloc (.cells #[.int .u64 seed] 82)).alloc (.cells (madeCells #[Value.int .i64 0] np) 3)).alloc (.cells (List.toArray [Value.int .i64 0, Value.int .i64 0, Value.int .i64 0, Value.int .i64 0, Value.int .i64 0, Value.int .i64 0, Value.int .i64 0, .pointer none, .int .i64 0, .int .i64 0, .int .i64 0, .int .i64 0, .int .i64 0, .int .i64 0, .slice none 0 0, .int .i64 0, .int .i64 0, .slice none 0 0]) 64)).drew (W2.heap.size) (by omega) (by rw [hz]; omega)).trans h0
  have hI := (setCells_far (W2.heap.size + 2) [.int .i64 p, .int .i64 c, .int .i64 n, .int .i64 b, .int .i64 r, .int .i64 f, .int .i64 g, .pointer (some ⟨W2.heap.size, 0, none⟩), .int .i64 ma, .int .i64 mt, .int .i64 md, .int .i64 ms, .int .i64 mp, .int .i64 mw, .slice (some ⟨W2.heap.size + 1, 0, none⟩) np np, .int .i64 0, .int .i64 most, .slice none 0 0] 0 (((W2.alloc (.cells #[.int .u64 seed] 82)).alloc (.cells (madeCells #[Value.int .i64 0] np) 3)).alloc (.cells (List.toArray [Value.int .i64 0, Value.int .i64 0, Value.int .i64 0, Value.int .i64 0, Value.int .i64 0, Value.int .i64 0, Value.int .i64 0, .pointer none, .int .i64 0, .int .i64 0, .int .i64 0, .int .i64 0, .int .i64 0, .int .i64 0, .slice none 0 0, .int .i64 0, .int .i64 0, .slice none 0 0]) 64)).drew (W2.heap.size + 1) (by omega) (by rw [hz]; omega)).trans h1
  have hbl : Below w.heap.size w (((W2.alloc (.cells #[.int .u64 seed] 82)).alloc (.cells (madeCells #[Value.int .i64 0] np) 3)).alloc (.cells (List.toArray [Value.int .i64 0, Value.int .i64 0, Value.int .i64 0, Value.int .i64 0, Value.int .i64 0, Value.int .i64 0, Value.int .i64 0, .pointer none, .int .i64 0, .int .i64 0, .int .i64 0, .int .i64 0, .int .i64 0, .int .i64 0, .slice none 0 0, .int .i64 0, .int .i64 0, .slice none 0 0]) 64)).drew := Below.drew (((hb.alloc hb.size _).alloc (by have := hb.size; rw [World.size_alloc]; omega) _).alloc (by have := hb.size; rw [World.size_alloc, World.size_alloc]; omega) _)
  rw [show (itS p c n b ma mt md ms mp mw seed 0).2.take most.toNat = ([] : List (List Int)) from List.take_nil]
  refine ⟨⟨_, hB⟩, ?_, ?_, ?_, ⟨rfl, .inl ⟨rfl, rfl⟩⟩, setCells_below hbl (by have := hb.size; omega) _ _, ?_⟩
  · exact (cell_of_row _ _ _ _ _ _ hS).trans rfl
  · exact blk_frozen hS 0
  · refine ⟨_, hI, by rw [size_madeCells], fun j hj => ?_⟩
    have h := toList_madeCells_one (.int .i64 0) np
    rw [← Array.getElem?_toList, h, List.getElem?_replicate, if_pos hj]
    rfl
  · exact Nat.le_trans (Nat.le_of_eq hz.symm) (But.setCells (W2.heap.size + 2) [.int .i64 p, .int .i64 c, .int .i64 n, .int .i64 b, .int .i64 r, .int .i64 f, .int .i64 g, .pointer (some ⟨W2.heap.size, 0, none⟩), .int .i64 ma, .int .i64 mt, .int .i64 md, .int .i64 ms, .int .i64 mp, .int .i64 mw, .slice (some ⟨W2.heap.size + 1, 0, none⟩) np np, .int .i64 0, .int .i64 most, .slice none 0 0] 0 (((W2.alloc (.cells #[.int .u64 seed] 82)).alloc (.cells (madeCells #[Value.int .i64 0] np) 3)).alloc (.cells (List.toArray [Value.int .i64 0, Value.int .i64 0, Value.int .i64 0, Value.int .i64 0, Value.int .i64 0, Value.int .i64 0, Value.int .i64 0, .pointer none, .int .i64 0, .int .i64 0, .int .i64 0, .int .i64 0, .int .i64 0, .int .i64 0, .slice none 0 0, .int .i64 0, .int .i64 0, .slice none 0 0]) 64)).drew).size
theorem start_there120 (seed : Int) (np : Nat) (W2 : World) : (((W2.alloc (.cells (madeCells #[Value.int .i64 0] np) 3)).alloc (.cells (List.toArray [Value.int .i64 0, Value.int .i64 0, Value.int .i64 0, Value.int .i64 0, Value.int .i64 0, Value.int .i64 0, Value.int .i64 0, .pointer none, .int .i64 0, .int .i64 0, .int .i64 0, .int .i64 0, .int .i64 0, .int .i64 0, .slice none 0 0, .int .i64 0, .int .i64 0, .slice none 0 0]) 64)).alloc (.cells #[.int .u64 seed] 82)).drew.there (W2.heap.size + 1) 0 18 := by
  obtain ⟨h0, h1, h2⟩ := three W2 (.cells (madeCells #[Value.int .i64 0] np) 3) (.cells (List.toArray [Value.int .i64 0, Value.int .i64 0, Value.int .i64 0, Value.int .i64 0, Value.int .i64 0, Value.int .i64 0, Value.int .i64 0, .pointer none, .int .i64 0, .int .i64 0, .int .i64 0, .int .i64 0, .int .i64 0, .int .i64 0, .slice none 0 0, .int .i64 0, .int .i64 0, .slice none 0 0]) 64) (.cells #[.int .u64 seed] 82)
  exact there_row (w := (((W2.alloc (.cells (madeCells #[Value.int .i64 0] np) 3)).alloc (.cells (List.toArray [Value.int .i64 0, Value.int .i64 0, Value.int .i64 0, Value.int .i64 0, Value.int .i64 0, Value.int .i64 0, Value.int .i64 0, .pointer none, .int .i64 0, .int .i64 0, .int .i64 0, .int .i64 0, .int .i64 0, .int .i64 0, .slice none 0 0, .int .i64 0, .int .i64 0, .slice none 0 0]) 64)).alloc (.cells #[.int .u64 seed] 82)).drew) h1
theorem start_ws120 (p c n b r f g ma mt md ms mp mw seed most : Int) (np : Nat) (w W2 : World) (hb : Below w.heap.size w W2) : WS w ((((W2.alloc (.cells (madeCells #[Value.int .i64 0] np) 3)).alloc (.cells (List.toArray [Value.int .i64 0, Value.int .i64 0, Value.int .i64 0, Value.int .i64 0, Value.int .i64 0, Value.int .i64 0, Value.int .i64 0, .pointer none, .int .i64 0, .int .i64 0, .int .i64 0, .int .i64 0, .int .i64 0, .int .i64 0, .slice none 0 0, .int .i64 0, .int .i64 0, .slice none 0 0]) 64)).alloc (.cells #[.int .u64 seed] 82)).drew.setCells (W2.heap.size + 1) 0 [.int .i64 p, .int .i64 c, .int .i64 n, .int .i64 b, .int .i64 r, .int .i64 f, .int .i64 g, .pointer (some ⟨W2.heap.size + 2, 0, none⟩), .int .i64 ma, .int .i64 mt, .int .i64 md, .int .i64 ms, .int .i64 mp, .int .i64 mw, .slice (some ⟨W2.heap.size, 0, none⟩) np np, .int .i64 0, .int .i64 most, .slice none 0 0]) (W2.heap.size + 1) (W2.heap.size + 2) (W2.heap.size) (W2.heap.size + 3) np p c n b r f g ma mt md ms mp mw most (itS p c n b ma mt md ms mp mw seed 0).1.1 (itS p c n b ma mt md ms mp mw seed 0).1.2.1 (itS p c n b ma mt md ms mp mw seed 0).1.2.2 (.slice none 0 0) ((itS p c n b ma mt md ms mp mw seed 0).2.take most.toNat) := by
  obtain ⟨h0, h1, h2⟩ := three W2 (.cells (madeCells #[Value.int .i64 0] np) 3) (.cells (List.toArray [Value.int .i64 0, Value.int .i64 0, Value.int .i64 0, Value.int .i64 0, Value.int .i64 0, Value.int .i64 0, Value.int .i64 0, .pointer none, .int .i64 0, .int .i64 0, .int .i64 0, .int .i64 0, .int .i64 0, .int .i64 0, .slice none 0 0, .int .i64 0, .int .i64 0, .slice none 0 0]) 64) (.cells #[.int .u64 seed] 82)
  have hz : (((W2.alloc (.cells (madeCells #[Value.int .i64 0] np) 3)).alloc (.cells (List.toArray [Value.int .i64 0, Value.int .i64 0, Value.int .i64 0, Value.int .i64 0, Value.int .i64 0, Value.int .i64 0, Value.int .i64 0, .pointer none, .int .i64 0, .int .i64 0, .int .i64 0, .int .i64 0, .int .i64 0, .int .i64 0, .slice none 0 0, .int .i64 0, .int .i64 0, .slice none 0 0]) 64)).alloc (.cells #[.int .u64 seed] 82)).drew.heap.size = W2.heap.size + 3 := by show (((W2.alloc (.cells (madeCells #[Value.int .i64 0] np) 3)).alloc (.cells (List.toArray [Value.int .i64 0, Value.int .i64 0, Value.int .i64 0, Value.int .i64 0, Value.int .i64 0, Value.int .i64 0, Value.int .i64 0, .pointer none, .int .i64 0, .int .i64 0, .int .i64 0, .int .i64 0, .int .i64 0, .int .i64 0, .slice none 0 0, .int .i64 0, .int .i64 0, .slice none 0 0]) 64)).alloc (.cells #[.int .u64 seed] 82)).heap.size = _; rw [World.size_alloc, World.size_alloc, World.size_alloc]
  have hB := setCells_row 64 (W2.heap.size + 1) [.int .i64 p, .int .i64 c, .int .i64 n, .int .i64 b, .int .i64 r, .int .i64 f, .int .i64 g, .pointer (some ⟨W2.heap.size + 2, 0, none⟩), .int .i64 ma, .int .i64 mt, .int .i64 md, .int .i64 ms, .int .i64 mp, .int .i64 mw, .slice (some ⟨W2.heap.size, 0, none⟩) np np, .int .i64 0, .int .i64 most, .slice none 0 0] [] [Value.int .i64 0, Value.int .i64 0, Value.int .i64 0, Value.int .i64 0, Value.int .i64 0, Value.int .i64 0, Value.int .i64 0, .pointer none, .int .i64 0, .int .i64 0, .int .i64 0, .int .i64 0, .int .i64 0, .int .i64 0, .slice none 0 0, .int .i64 0, .int .i64 0, .slice none 0 0] (((W2.alloc (.cells (madeCells #[Value.int .i64 0] np) 3)).alloc (.cells (List.toArray [Value.int .i64 0, Value.int .i64 0, Value.int .i64 0, Value.int .i64 0, Value.int .i64 0, Value.int .i64 0, Value.int .i64 0, .pointer none, .int .i64 0, .int .i64 0, .int .i64 0, .int .i64 0, .int .i64 0, .int .i64 0, .slice none 0 0, .int .i64 0, .int .i64 0, .slice none 0 0]) 64)).alloc (.cells #[.int .u64 seed] 82)).drew h1 rfl
  have hS := (setCells_far (W2.heap.size + 1) [.int .i64 p, .int .i64 c, .int .i64 n, .int .i64 b, .int .i64 r, .int .i64 f, .int .i64 g, .pointer (some ⟨W2.heap.size + 2, 0, none⟩), .int .i64 ma, .int .i64 mt, .int .i64 md, .int .i64 ms, .int .i64 mp, .int .i64 mw, .slice (some ⟨W2.heap.size, 0, none⟩) np np, .int .i64 0, .int .i64 most, .slice none 0 0] 0 (((W2.alloc (.cells (madeCells #[Value.int .i64 0] np) 3)).alloc (.cells (List.toArray [Value.int .i64 0, Value.int .i64 0, Value.int .i64 0, Value.int .i64 0, Value.int .i64 0, Value.int .i64 0, Value.int .i64 0, .pointer none, .int .i64 0, .int .i64 0, .int .i64 0, .int .i64 0, .int .i64 0, .int .i64 0, .slice none 0 0, .int .i64 0, .int .i64 0, .slice none 0 0]) 64)).alloc (.cells #[.int .u64 seed] 82)).drew (W2.heap.size + 2) (by omega) (by rw [hz]; omega)).trans h2
  have hI := (setCells_far (W2.heap.size + 1) [.int .i64 p, .int .i64 c, .int .i64 n, .int .i64 b, .int .i64 r, .int .i64 f, .int .i64 g, .pointer (some ⟨W2.heap.size + 2, 0, none⟩), .int .i64 ma, .int .i64 mt, .int .i64 md, .int .i64 ms, .int .i64 mp, .int .i64 mw, .slice (some ⟨W2.heap.size, 0, none⟩) np np, .int .i64 0, .int .i64 most, .slice none 0 0] 0 (((W2.alloc (.cells (madeCells #[Value.int .i64 0] np) 3)).alloc (.cells (List.toArray [Value.int .i64 0, Value.int .i64 0, Value.int .i64 0, Value.int .i64 0, Value.int .i64 0, Value.int .i64 0, Value.int .i64 0, .pointer none, .int .i64 0, .int .i64 0, .int .i64 0, .int .i64 0, .int .i64 0, .int .i64 0, .slice none 0 0, .int .i64 0, .int .i64 0, .slice none 0 0]) 64)).alloc (.cells #[.int .u64 seed] 82)).drew (W2.heap.size) (by omega) (by rw [hz]; omega)).trans h0
  have hbl : Below w.heap.size w (((W2.alloc (.cells (madeCells #[Value.int .i64 0] np) 3)).alloc (.cells (List.toArray [Value.int .i64 0, Value.int .i64 0, Value.int .i64 0, Value.int .i64 0, Value.int .i64 0, Value.int .i64 0, Value.int .i64 0, .pointer none, .int .i64 0, .int .i64 0, .int .i64 0, .int .i64 0, .int .i64 0, .int .i64 0, .slice none 0 0, .int .i64 0, .int .i64 0, .slice none 0 0]) 64)).alloc (.cells #[.int .u64 seed] 82)).drew := Below.drew (((hb.alloc hb.size _).alloc (by have := hb.size; rw [World.size_alloc]; omega) _).alloc (by have := hb.size; rw [World.size_alloc, World.size_alloc]; omega) _)
  rw [show (itS p c n b ma mt md ms mp mw seed 0).2.take most.toNat = ([] : List (List Int)) from List.take_nil]
  refine ⟨⟨_, hB⟩, ?_, ?_, ?_, ⟨rfl, .inl ⟨rfl, rfl⟩⟩, setCells_below hbl (by have := hb.size; omega) _ _, ?_⟩
  · exact (cell_of_row _ _ _ _ _ _ hS).trans rfl
  · exact blk_frozen hS 0
  · refine ⟨_, hI, by rw [size_madeCells], fun j hj => ?_⟩
    have h := toList_madeCells_one (.int .i64 0) np
    rw [← Array.getElem?_toList, h, List.getElem?_replicate, if_pos hj]
    rfl
  · exact Nat.le_trans (Nat.le_of_eq hz.symm) (But.setCells (W2.heap.size + 1) [.int .i64 p, .int .i64 c, .int .i64 n, .int .i64 b, .int .i64 r, .int .i64 f, .int .i64 g, .pointer (some ⟨W2.heap.size + 2, 0, none⟩), .int .i64 ma, .int .i64 mt, .int .i64 md, .int .i64 ms, .int .i64 mp, .int .i64 mw, .slice (some ⟨W2.heap.size, 0, none⟩) np np, .int .i64 0, .int .i64 most, .slice none 0 0] 0 (((W2.alloc (.cells (madeCells #[Value.int .i64 0] np) 3)).alloc (.cells (List.toArray [Value.int .i64 0, Value.int .i64 0, Value.int .i64 0, Value.int .i64 0, Value.int .i64 0, Value.int .i64 0, Value.int .i64 0, .pointer none, .int .i64 0, .int .i64 0, .int .i64 0, .int .i64 0, .int .i64 0, .int .i64 0, .slice none 0 0, .int .i64 0, .int .i64 0, .slice none 0 0]) 64)).alloc (.cells #[.int .u64 seed] 82)).drew).size
theorem start_there210 (seed : Int) (np : Nat) (W2 : World) : (((W2.alloc (.cells (madeCells #[Value.int .i64 0] np) 3)).alloc (.cells #[.int .u64 seed] 82)).alloc (.cells (List.toArray [Value.int .i64 0, Value.int .i64 0, Value.int .i64 0, Value.int .i64 0, Value.int .i64 0, Value.int .i64 0, Value.int .i64 0, .pointer none, .int .i64 0, .int .i64 0, .int .i64 0, .int .i64 0, .int .i64 0, .int .i64 0, .slice none 0 0, .int .i64 0, .int .i64 0, .slice none 0 0]) 64)).drew.there (W2.heap.size + 2) 0 18 := by
  obtain ⟨h0, h1, h2⟩ := three W2 (.cells (madeCells #[Value.int .i64 0] np) 3) (.cells #[.int .u64 seed] 82) (.cells (List.toArray [Value.int .i64 0, Value.int .i64 0, Value.int .i64 0, Value.int .i64 0, Value.int .i64 0, Value.int .i64 0, Value.int .i64 0, .pointer none, .int .i64 0, .int .i64 0, .int .i64 0, .int .i64 0, .int .i64 0, .int .i64 0, .slice none 0 0, .int .i64 0, .int .i64 0, .slice none 0 0]) 64)
  exact there_row (w := (((W2.alloc (.cells (madeCells #[Value.int .i64 0] np) 3)).alloc (.cells #[.int .u64 seed] 82)).alloc (.cells (List.toArray [Value.int .i64 0, Value.int .i64 0, Value.int .i64 0, Value.int .i64 0, Value.int .i64 0, Value.int .i64 0, Value.int .i64 0, .pointer none, .int .i64 0, .int .i64 0, .int .i64 0, .int .i64 0, .int .i64 0, .int .i64 0, .slice none 0 0, .int .i64 0, .int .i64 0, .slice none 0 0]) 64)).drew) h2
theorem start_ws210 (p c n b r f g ma mt md ms mp mw seed most : Int) (np : Nat) (w W2 : World) (hb : Below w.heap.size w W2) : WS w ((((W2.alloc (.cells (madeCells #[Value.int .i64 0] np) 3)).alloc (.cells #[.int .u64 seed] 82)).alloc (.cells (List.toArray [Value.int .i64 0, Value.int .i64 0, Value.int .i64 0, Value.int .i64 0, Value.int .i64 0, Value.int .i64 0, Value.int .i64 0, .pointer none, .int .i64 0, .int .i64 0, .int .i64 0, .int .i64 0, .int .i64 0, .int .i64 0, .slice none 0 0, .int .i64 0, .int .i64 0, .slice none 0 0]) 64)).drew.setCells (W2.heap.size + 2) 0 [.int .i64 p, .int .i64 c, .int .i64 n, .int .i64 b, .int .i64 r, .int .i64 f, .int .i64 g, .pointer (some ⟨W2.heap.size + 1, 0, none⟩), .int .i64 ma, .int .i64 mt, .int .i64 md, .int .i64 ms, .int .i64 mp, .int .i64 mw, .slice (some ⟨W2.heap.size, 0, none⟩) np np, .int .i64 0, .int .i64 most, .slice none 0 0]) (W2.heap.size + 2) (W2.heap.size + 1) (W2.heap.size) (W2.heap.size + 3) np p c n b r f g ma mt md ms mp mw most (itS p c n b ma mt md ms mp mw seed 0).1.1 (itS p c n b ma mt md ms mp mw seed 0).1.2.1 (itS p c n b ma mt md ms mp mw seed 0).1.2.2 (.slice none 0 0) ((itS p c n b ma mt md ms mp mw seed 0).2.take most.toNat) := by
  obtain ⟨h0, h1, h2⟩ := three W2 (.cells (madeCells #[Value.int .i64 0] np) 3) (.cells #[.int .u64 seed] 82) (.cells (List.toArray [Value.int .i64 0, Value.int .i64 0, Value.int .i64 0, Value.int .i64 0, Value.int .i64 0, Value.int .i64 0, Value.int .i64 0, .pointer none, .int .i64 0, .int .i64 0, .int .i64 0, .int .i64 0, .int .i64 0, .int .i64 0, .slice none 0 0, .int .i64 0, .int .i64 0, .slice none 0 0]) 64)
  have hz : (((W2.alloc (.cells (madeCells #[Value.int .i64 0] np) 3)).alloc (.cells #[.int .u64 seed] 82)).alloc (.cells (List.toArray [Value.int .i64 0, Value.int .i64 0, Value.int .i64 0, Value.int .i64 0, Value.int .i64 0, Value.int .i64 0, Value.int .i64 0, .pointer none, .int .i64 0, .int .i64 0, .int .i64 0, .int .i64 0, .int .i64 0, .int .i64 0, .slice none 0 0, .int .i64 0, .int .i64 0, .slice none 0 0]) 64)).drew.heap.size = W2.heap.size + 3 := by show (((W2.alloc (.cells (madeCells #[Value.int .i64 0] np) 3)).alloc (.cells #[.int .u64 seed] 82)).alloc (.cells (List.toArray [Value.int .i64 0, Value.int .i64 0, Value.int .i64 0, Value.int .i64 0, Value.int .i64 0, Value.int .i64 0, Value.int .i64 0, .pointer none, .int .i64 0, .int .i64 0, .int .i64 0, .int .i64 0, .int .i64 0, .int .i64 0, .slice none 0 0, .int .i64 0, .int .i64 0, .slice none 0 0]) 64)).heap.size = _; rw [World.size_alloc, World.size_alloc, World.size_alloc]
  have hB := setCells_row 64 (W2.heap.size + 2) [.int .i64 p, .int .i64 c, .int .i64 n, .int .i64 b, .int .i64 r, .int .i64 f, .int .i64 g, .pointer (some ⟨W2.heap.size + 1, 0, none⟩), .int .i64 ma, .int .i64 mt, .int .i64 md, .int .i64 ms, .int .i64 mp, .int .i64 mw, .slice (some ⟨W2.heap.size, 0, none⟩) np np, .int .i64 0, .int .i64 most, .slice none 0 0] [] [Value.int .i64 0, Value.int .i64 0, Value.int .i64 0, Value.int .i64 0, Value.int .i64 0, Value.int .i64 0, Value.int .i64 0, .pointer none, .int .i64 0, .int .i64 0, .int .i64 0, .int .i64 0, .int .i64 0, .int .i64 0, .slice none 0 0, .int .i64 0, .int .i64 0, .slice none 0 0] (((W2.alloc (.cells (madeCells #[Value.int .i64 0] np) 3)).alloc (.cells #[.int .u64 seed] 82)).alloc (.cells (List.toArray [Value.int .i64 0, Value.int .i64 0, Value.int .i64 0, Value.int .i64 0, Value.int .i64 0, Value.int .i64 0, Value.int .i64 0, .pointer none, .int .i64 0, .int .i64 0, .int .i64 0, .int .i64 0, .int .i64 0, .int .i64 0, .slice none 0 0, .int .i64 0, .int .i64 0, .slice none 0 0]) 64)).drew h2 rfl
  have hS := (setCells_far (W2.heap.size + 2) [.int .i64 p, .int .i64 c, .int .i64 n, .int .i64 b, .int .i64 r, .int .i64 f, .int .i64 g, .pointer (some ⟨W2.heap.size + 1, 0, none⟩), .int .i64 ma, .int .i64 mt, .int .i64 md, .int .i64 ms, .int .i64 mp, .int .i64 mw, .slice (some ⟨W2.heap.size, 0, none⟩) np np, .int .i64 0, .int .i64 most, .slice none 0 0] 0 (((W2.alloc (.cells (madeCells #[Value.int .i64 0] np) 3)).alloc (.cells #[.int .u64 seed] 82)).alloc (.cells (List.toArray [Value.int .i64 0, Value.int .i64 0, Value.int .i64 0, Value.int .i64 0, Value.int .i64 0, Value.int .i64 0, Value.int .i64 0, .pointer none, .int .i64 0, .int .i64 0, .int .i64 0, .int .i64 0, .int .i64 0, .int .i64 0, .slice none 0 0, .int .i64 0, .int .i64 0, .slice none 0 0]) 64)).drew (W2.heap.size + 1) (by omega) (by rw [hz]; omega)).trans h1
  have hI := (setCells_far (W2.heap.size + 2) [.int .i64 p, .int .i64 c, .int .i64 n, .int .i64 b, .int .i64 r, .int .i64 f, .int .i64 g, .pointer (some ⟨W2.heap.size + 1, 0, none⟩), .int .i64 ma, .int .i64 mt, .int .i64 md, .int .i64 ms, .int .i64 mp, .int .i64 mw, .slice (some ⟨W2.heap.size, 0, none⟩) np np, .int .i64 0, .int .i64 most, .slice none 0 0] 0 (((W2.alloc (.cells (madeCells #[Value.int .i64 0] np) 3)).alloc (.cells #[.int .u64 seed] 82)).alloc (.cells (List.toArray [Value.int .i64 0, Value.int .i64 0, Value.int .i64 0, Value.int .i64 0, Value.int .i64 0, Value.int .i64 0, Value.int .i64 0, .pointer none, .int .i64 0, .int .i64 0, .int .i64 0, .int .i64 0, .int .i64 0, .int .i64 0, .slice none 0 0, .int .i64 0, .int .i64 0, .slice none 0 0]) 64)).drew (W2.heap.size) (by omega) (by rw [hz]; omega)).trans h0
  have hbl : Below w.heap.size w (((W2.alloc (.cells (madeCells #[Value.int .i64 0] np) 3)).alloc (.cells #[.int .u64 seed] 82)).alloc (.cells (List.toArray [Value.int .i64 0, Value.int .i64 0, Value.int .i64 0, Value.int .i64 0, Value.int .i64 0, Value.int .i64 0, Value.int .i64 0, .pointer none, .int .i64 0, .int .i64 0, .int .i64 0, .int .i64 0, .int .i64 0, .int .i64 0, .slice none 0 0, .int .i64 0, .int .i64 0, .slice none 0 0]) 64)).drew := Below.drew (((hb.alloc hb.size _).alloc (by have := hb.size; rw [World.size_alloc]; omega) _).alloc (by have := hb.size; rw [World.size_alloc, World.size_alloc]; omega) _)
  rw [show (itS p c n b ma mt md ms mp mw seed 0).2.take most.toNat = ([] : List (List Int)) from List.take_nil]
  refine ⟨⟨_, hB⟩, ?_, ?_, ?_, ⟨rfl, .inl ⟨rfl, rfl⟩⟩, setCells_below hbl (by have := hb.size; omega) _ _, ?_⟩
  · exact (cell_of_row _ _ _ _ _ _ hS).trans rfl
  · exact blk_frozen hS 0
  · refine ⟨_, hI, by rw [size_madeCells], fun j hj => ?_⟩
    have h := toList_madeCells_one (.int .i64 0) np
    rw [← Array.getElem?_toList, h, List.getElem?_replicate, if_pos hj]
    rfl
  · exact Nat.le_trans (Nat.le_of_eq hz.symm) (But.setCells (W2.heap.size + 2) [.int .i64 p, .int .i64 c, .int .i64 n, .int .i64 b, .int .i64 r, .int .i64 f, .int .i64 g, .pointer (some ⟨W2.heap.size + 1, 0, none⟩), .int .i64 ma, .int .i64 mt, .int .i64 md, .int .i64 ms, .int .i64 mp, .int .i64 mw, .slice (some ⟨W2.heap.size, 0, none⟩) np np, .int .i64 0, .int .i64 most, .slice none 0 0] 0 (((W2.alloc (.cells (madeCells #[Value.int .i64 0] np) 3)).alloc (.cells #[.int .u64 seed] 82)).alloc (.cells (List.toArray [Value.int .i64 0, Value.int .i64 0, Value.int .i64 0, Value.int .i64 0, Value.int .i64 0, Value.int .i64 0, Value.int .i64 0, .pointer none, .int .i64 0, .int .i64 0, .int .i64 0, .int .i64 0, .int .i64 0, .int .i64 0, .slice none 0 0, .int .i64 0, .int .i64 0, .slice none 0 0]) 64)).drew).size
theorem draw_next (w wr : World) (B S I K np : Nat) (p c n b r f g ma mt md ms mp mw : Int) (seed most : Int) (k : Nat) (v : Value) (hd : Far w B S I K) (h : WS w wr B S I K np p c n b r f g ma mt md ms mp mw most (itS p c n b ma mt md ms mp mw seed k).1.1 (itS p c n b ma mt md ms mp mw seed k).1.2.1 (itS p c n b ma mt md ms mp mw seed k).1.2.2 v ((itS p c n b ma mt md ms mp mw seed k).2.take most.toNat)) (hp : 1 ≤ p ∧ p ≤ 6) (hc : 1 ≤ c ∧ c ≤ 4) (hn : 1 ≤ n ∧ n ≤ 3) (hb : 1 ≤ b ∧ b ≤ 4) (hm1 : -10000 ≤ ma ∧ ma ≤ 10000) (hm2 : -10000 ≤ mt ∧ mt ≤ 10000) (hm3 : -10000 ≤ md ∧ md ≤ 10000) (hm4 : -10000 ≤ ms ∧ ms ≤ 10000) (hm5 : -10000 ≤ mp ∧ mp ≤ 10000) (hm6 : 0 ≤ mw ∧ mw ≤ 10000) (hmost : most ≤ 65536) (hnp : (np : Int) = p) (hlm : ((((itS p c n b ma mt md ms mp mw seed k).2.take most.toNat).length : Nat) : Int) < most) : Calls Try.prog 17 #[.pointer (some ⟨B, 0, none⟩)] wr fun e w' => ∃ q v', e = .returned q ∧ WS w w' B S I K np p c n b r f g ma mt md ms mp mw most (itS p c n b ma mt md ms mp mw seed (k + 1)).1.1 (itS p c n b ma mt md ms mp mw seed (k + 1)).1.2.1 (itS p c n b ma mt md ms mp mw seed (k + 1)).1.2.2 v' ((itS p c n b ma mt md ms mp mw seed (k + 1)).2.take most.toNat) ∧ ((itS p c n b ma mt md ms mp mw seed k).2.take most.toNat).length < ((itS p c n b ma mt md ms mp mw seed (k + 1)).2.take most.toNat).length := by
  have hbd := itS_bd p c n b ma mt md ms mp mw seed k
  have hpos := stepM_pos p c n b ma mt md ms mp mw (itS p c n b ma mt md ms mp mw seed k).1
  have hl : (itS p c n b ma mt md ms mp mw seed k).2.length < most.toNat := by
    rw [List.length_take] at hlm
    omega
  have hfull : (itS p c n b ma mt md ms mp mw seed k).2.take most.toNat = (itS p c n b ma mt md ms mp mw seed k).2 := List.take_of_length_le (by omega)
  have hnext : (itS p c n b ma mt md ms mp mw seed (k + 1)).2.take most.toNat = (itS p c n b ma mt md ms mp mw seed k).2 ++ (stepM p c n b ma mt md ms mp mw (itS p c n b ma mt md ms mp mw seed k).1).2.take (most.toNat - (itS p c n b ma mt md ms mp mw seed k).2.length) := by
    show ((itS p c n b ma mt md ms mp mw seed k).2 ++ (stepM p c n b ma mt md ms mp mw (itS p c n b ma mt md ms mp mw seed k).1).2).take most.toNat = _
    rw [List.take_append, hfull]
  rw [hfull] at h hlm ⊢
  rw [hnext]
  refine (draw_is w wr B S I K np p c n b r f g ma mt md ms mp mw most (itS p c n b ma mt md ms mp mw seed k).1.1 (itS p c n b ma mt md ms mp mw seed k).1.2.1 (itS p c n b ma mt md ms mp mw seed k).1.2.2 v (itS p c n b ma mt md ms mp mw seed k).2 hd h hp hc hn hb hm1 hm2 hm3 hm4 hm5 hm6 hbd.1 hbd.2 hlm hmost hnp).mono ?_
  rintro e w' ⟨q, v', he, hw⟩
  refine ⟨q, v', he, hw, ?_⟩
  rw [List.length_append, List.length_take]
  omega
theorem draw_end (w wr : World) (B S I K np : Nat) (p c n b r f g ma mt md ms mp mw : Int) (seed most : Int) (k : Nat) (v : Value) (h : WS w wr B S I K np p c n b r f g ma mt md ms mp mw most (itS p c n b ma mt md ms mp mw seed k).1.1 (itS p c n b ma mt md ms mp mw seed k).1.2.1 (itS p c n b ma mt md ms mp mw seed k).1.2.2 v ((itS p c n b ma mt md ms mp mw seed k).2.take most.toNat)) (hK : w.heap.size ≤ K) (hlm : ¬ ((((itS p c n b ma mt md ms mp mw seed k).2.take most.toNat).length : Nat) : Int) < most) : ((itS p c n b ma mt md ms mp mw seed k).2.take most.toNat).length = most.toNat ∧ wr.ownsRow w.heap.size 47 12 v most.toNat (lv (scr p c n b ma mt md ms mp mw seed most.toNat)) ∧ Below w.heap.size w wr := by
  have hl : most.toNat ≤ (itS p c n b ma mt md ms mp mw seed k).2.length := by
    rw [List.length_take] at hlm
    omega
  have hr := h.row
  rw [scr_of p c n b ma mt md ms mp mw seed most.toNat k hl] at hr ⊢
  have hle := scr_len p c n b ma mt md ms mp mw seed most.toNat
  rw [hle] at hr
  exact ⟨hle, ⟨hr.1, hr.2.imp id fun ⟨g', c', cur, hv, hg', hrr⟩ => ⟨g', c', cur, hv, Nat.le_trans hK hg', hrr⟩⟩, h.bel⟩
set_option maxRecDepth 100000 in
set_option maxHeartbeats 16000000 in
theorem script_is (p c n b r f g ma mt md ms mp mw : Int) (seed most : Int) (w : World) (hp : 1 ≤ p ∧ p ≤ 6) (hc : 1 ≤ c ∧ c ≤ 4) (hn : 1 ≤ n ∧ n ≤ 3) (hb : 1 ≤ b ∧ b ≤ 4) (hm1 : -10000 ≤ ma ∧ ma ≤ 10000) (hm2 : -10000 ≤ mt ∧ mt ≤ 10000) (hm3 : -10000 ≤ md ∧ md ≤ 10000) (hm4 : -10000 ≤ ms ∧ ms ≤ 10000) (hm5 : -10000 ≤ mp ∧ mp ≤ 10000) (hm6 : 0 ≤ mw ∧ mw ≤ 10000) (hmost : most ≤ 65536) : Calls Try.prog 9 #[.agg #[.int .i64 p, .int .i64 c, .int .i64 n, .int .i64 b, .int .i64 r, .int .i64 f, .int .i64 g], .int .u64 seed, .agg #[.int .i64 ma, .int .i64 mt, .int .i64 md, .int .i64 ms, .int .i64 mp, .int .i64 mw], .int .i64 most] w fun e w' => ∃ A cp, e = .returned (.slice A most.toNat cp) ∧ w'.ownsRow w.heap.size 47 12 (.slice A most.toNat cp) most.toNat (lv (scr p c n b ma mt md ms mp mw seed most.toNat)) ∧ Below w.heap.size w w' := by
  have e1 : (if (1 : Int) < p then p else 1) = p := by split <;> omega
  have e2 : (if (65536 : Int) < most then 65536 else most) = most := by split <;> omega
  obtain ⟨np, hnp⟩ : ∃ np : Nat, (np : Int) = p := ⟨p.toNat, by omega⟩
  have hnp2 : np ≤ 6 := by omega
  have hmk : ∀ W : World, (Instr.makeSlice 56 (.int .i64 p) (.int .i64 p)).run Try.prog W = .ok (.slice (some ⟨W.heap.size, 0, none⟩) np np) (W.alloc (.cells (madeCells (Value.int .i64 0).cells (np * 1)) 3)) := fun W => by rw [← hnp]; exact makeI np (by omega) W
  have HFR := Lib.hid (fun W => from39 seed W)
  go_enter Try.func9, Try.ntmps9
  go_wp2_with fail
  generalize hW2 : (w.alloc (Obj.cells #[.int .i64 p, .int .i64 c, .int .i64 n, .int .i64 b, .int .i64 r, .int .i64 f, .int .i64 g] 28)).alloc (Obj.cells #[.int .i64 ma, .int .i64 mt, .int .i64 md, .int .i64 ms, .int .i64 mp, .int .i64 mw] 38) = W2
  have hB2 : Below w.heap.size w W2 := by rw [← hW2]; go_grown
  have hz2 : W2.heap.size = w.heap.size + 2 := by rw [← hW2]; simp
  have hS : W2.drew.cell? ⟨w.heap.size, 0, none⟩ = some (.int .i64 p) ∧ W2.drew.cell? ⟨w.heap.size, 1, none⟩ = some (.int .i64 c) ∧ W2.drew.cell? ⟨w.heap.size, 2, none⟩ = some (.int .i64 n) ∧ W2.drew.cell? ⟨w.heap.size, 3, none⟩ = some (.int .i64 b) ∧ W2.drew.cell? ⟨w.heap.size, 4, none⟩ = some (.int .i64 r) ∧ W2.drew.cell? ⟨w.heap.size, 5, none⟩ = some (.int .i64 f) ∧ W2.drew.cell? ⟨w.heap.size, 6, none⟩ = some (.int .i64 g) ∧ W2.drew.cell? ⟨w.heap.size + 1, 0, none⟩ = some (.int .i64 ma) ∧ W2.drew.cell? ⟨w.heap.size + 1, 1, none⟩ = some (.int .i64 mt) ∧ W2.drew.cell? ⟨w.heap.size + 1, 2, none⟩ = some (.int .i64 md) ∧ W2.drew.cell? ⟨w.heap.size + 1, 3, none⟩ = some (.int .i64 ms) ∧ W2.drew.cell? ⟨w.heap.size + 1, 4, none⟩ = some (.int .i64 mp) ∧ W2.drew.cell? ⟨w.heap.size + 1, 5, none⟩ = some (.int .i64 mw) := by rw [← hW2]; refine ⟨?_, ?_, ?_, ?_, ?_, ?_, ?_, ?_, ?_, ?_, ?_, ?_, ?_⟩ <;> simp [go_sem]
  have hkk : ∀ (W : World), Below W2.heap.size W2 W → W.cell? ⟨w.heap.size, 0, none⟩ = some (.int .i64 p) ∧ W.cell? ⟨w.heap.size, 1, none⟩ = some (.int .i64 c) ∧ W.cell? ⟨w.heap.size, 2, none⟩ = some (.int .i64 n) ∧ W.cell? ⟨w.heap.size, 3, none⟩ = some (.int .i64 b) ∧ W.cell? ⟨w.heap.size, 4, none⟩ = some (.int .i64 r) ∧ W.cell? ⟨w.heap.size, 5, none⟩ = some (.int .i64 f) ∧ W.cell? ⟨w.heap.size, 6, none⟩ = some (.int .i64 g) ∧ W.cell? ⟨w.heap.size + 1, 0, none⟩ = some (.int .i64 ma) ∧ W.cell? ⟨w.heap.size + 1, 1, none⟩ = some (.int .i64 mt) ∧ W.cell? ⟨w.heap.size + 1, 2, none⟩ = some (.int .i64 md) ∧ W.cell? ⟨w.heap.size + 1, 3, none⟩ = some (.int .i64 ms) ∧ W.cell? ⟨w.heap.size + 1, 4, none⟩ = some (.int .i64 mp) ∧ W.cell? ⟨w.heap.size + 1, 5, none⟩ = some (.int .i64 mw) := fun W hb => by
    obtain ⟨h1, h2, h3, h4, h5, h6, h7, h8, h9, h10, h11, h12, h13⟩ := hS
    have hc : ∀ (g j : Nat) (u : Value), g < w.heap.size + 2 → W2.drew.cell? ⟨g, j, none⟩ = some u → W.cell? ⟨g, j, none⟩ = some u := fun g j u hg hu => (hb.cell (p := ⟨g, j, none⟩) (by show g < W2.heap.size; omega)).trans hu
    exact ⟨hc _ _ _ (by omega) h1, hc _ _ _ (by omega) h2, hc _ _ _ (by omega) h3, hc _ _ _ (by omega) h4, hc _ _ _ (by omega) h5, hc _ _ _ (by omega) h6, hc _ _ _ (by omega) h7, hc _ _ _ (by omega) h8, hc _ _ _ (by omega) h9, hc _ _ _ (by omega) h10, hc _ _ _ (by omega) h11, hc _ _ _ (by omega) h12, hc _ _ _ (by omega) h13⟩
  clear hW2 hS
  have HZ2 := Lib.hid hz2
  clear hz2
  go_cut [9] (fun s9 wx => ∃ B S I K : Nat, s9 = .pointer (some ⟨B, 0, none⟩) ∧ Far w B S I K ∧ Hid (WS w wx B S I K np p c n b r f g ma mt md ms mp mw most (itS p c n b ma mt md ms mp mw seed 0).1.1 (itS p c n b ma mt md ms mp mw seed 0).1.2.1 (itS p c n b ma mt md ms mp mw seed 0).1.2.2 (.slice none 0 0) ((itS p c n b ma mt md ms mp mw seed 0).2.take most.toNat)))
  case first =>
    refine wp_region_held_drew (S := fun w' => Below W2.heap.size W2 w') (by kernel_rfl) (Below.drew (Below.refl _ _)) (fun hHeld => ?_)
    refine wpAnyH_take (i := 0) (oi := { dst := some 10, op := Op.load 28 (Operand.tmp 4), type := 28, pos := "storm.go:100", after := #[], guard := none }) (v := ?_) rfl (by as_aux_lemma => kernel_rfl) (by as_aux_lemma => kernel_rfl) (by as_aux_lemma => kernel_rfl) (fun _ _ _ h => h) (Or.inl ⟨by rfl, ?_⟩) (by assumption) ?_
    rotate_left
    · intro wq hSw
      obtain ⟨h1, h2, h3, h4, h5, h6, h7, h8, h9, h10, h11, h12, h13⟩ := hkk _ hSw
      go_simp
      try with_reducible rfl
    simp only [Act.put, List.setIfInBounds_toArray, List.set_cons_zero, List.set_cons_succ]
    refine wpAnyH_take (i := 1) (oi := { dst := some 11, op := Op.move (Operand.tmp 1), type := 24, pos := "storm.go:100", after := #[], guard := none }) (v := ?_) rfl (by as_aux_lemma => kernel_rfl) (by as_aux_lemma => kernel_rfl) (by as_aux_lemma => kernel_rfl) (fun _ _ _ h => h) (Or.inl ⟨by rfl, ?_⟩) (by assumption) ?_
    rotate_left
    · intro wq hSw
      go_simp
      try with_reducible rfl
    simp only [Act.put, List.setIfInBounds_toArray, List.set_cons_zero, List.set_cons_succ]
    refine wpAnyH_take (i := 3) (oi := { dst := some 13, op := Op.load 38 (Operand.tmp 6), type := 38, pos := "storm.go:100", after := #[], guard := none }) (v := ?_) rfl (by as_aux_lemma => kernel_rfl) (by as_aux_lemma => kernel_rfl) (by as_aux_lemma => kernel_rfl) (fun _ _ _ h => h) (Or.inl ⟨by rfl, ?_⟩) (by assumption) ?_
    rotate_left
    · intro wq hSw
      obtain ⟨h1, h2, h3, h4, h5, h6, h7, h8, h9, h10, h11, h12, h13⟩ := hkk _ hSw
      go_simp
      try with_reducible rfl
    simp only [Act.put, List.setIfInBounds_toArray, List.set_cons_zero, List.set_cons_succ]
    refine wpAnyH_take (i := 4) (oi := { dst := some 14, op := Op.fieldAddr 28 (Operand.tmp 4) 0, type := 0, pos := "storm.go:100", after := #[], guard := none }) (v := ?_) rfl (by as_aux_lemma => kernel_rfl) (by as_aux_lemma => kernel_rfl) (by as_aux_lemma => kernel_rfl) (fun _ _ _ h => h) (Or.inl ⟨by rfl, ?_⟩) (by assumption) ?_
    rotate_left
    · intro wq hSw
      go_simp
      try with_reducible rfl
    simp only [Act.put, List.setIfInBounds_toArray, List.set_cons_zero, List.set_cons_succ]
    refine wpAnyH_take (i := 5) (oi := { dst := some 15, op := Op.fieldAddr 23 (Operand.tmp 14) 0, type := 0, pos := "storm.go:100", after := #[{ on := 4, ground := Ground.data }], guard := none }) (v := ?_) rfl (by as_aux_lemma => kernel_rfl) (by as_aux_lemma => kernel_rfl) (by as_aux_lemma => kernel_rfl) (fun _ _ _ h => h) (Or.inl ⟨by rfl, ?_⟩) (by assumption) ?_
    rotate_left
    · intro wq hSw
      go_simp
      try with_reducible rfl
    simp only [Act.put, List.setIfInBounds_toArray, List.set_cons_zero, List.set_cons_succ]
    refine wpAnyH_take (i := 6) (oi := { dst := some 16, op := Op.load 3 (Operand.tmp 15), type := 3, pos := "storm.go:100", after := #[{ on := 5, ground := Ground.data }], guard := none }) (v := ?_) rfl (by as_aux_lemma => kernel_rfl) (by as_aux_lemma => kernel_rfl) (by as_aux_lemma => kernel_rfl) (fun _ _ _ h => h) (Or.inl ⟨by rfl, ?_⟩) (by assumption) ?_
    rotate_left
    · intro wq hSw
      obtain ⟨h1, h2, h3, h4, h5, h6, h7, h8, h9, h10, h11, h12, h13⟩ := hkk _ hSw
      go_simp
      try with_reducible rfl
    simp only [Act.put, List.setIfInBounds_toArray, List.set_cons_zero, List.set_cons_succ]
    refine wpAnyH_take (i := 7) (oi := { dst := some 17, op := Op.call { callee := Callee.builtin Builtin.max, args := #[Operand.const (Value.int IntKind.i64 1), Operand.tmp 16], argTypes := #[3, 3] }, type := 3, pos := "storm.go:100", after := #[{ on := 6, ground := Ground.data }], guard := none }) (v := ?_) rfl (by as_aux_lemma => kernel_rfl) (by as_aux_lemma => kernel_rfl) (by as_aux_lemma => kernel_rfl) (fun _ _ _ h => h) (Or.inl ⟨by rfl, ?_⟩) (by assumption) ?_
    rotate_left
    · intro wq hSw
      go_simp
      try with_reducible rfl
    simp only [Act.put, List.setIfInBounds_toArray, List.set_cons_zero, List.set_cons_succ]
    refine wpAnyH_take (i := 9) (oi := { dst := some 19, op := Op.move (Operand.tmp 3), type := 3, pos := "storm.go:100", after := #[], guard := none }) (v := ?_) rfl (by as_aux_lemma => kernel_rfl) (by as_aux_lemma => kernel_rfl) (by as_aux_lemma => kernel_rfl) (fun _ _ _ h => h) (Or.inl ⟨by rfl, ?_⟩) (by assumption) ?_
    rotate_left
    · intro wq hSw
      go_simp
      try with_reducible rfl
    simp only [Act.put, List.setIfInBounds_toArray, List.set_cons_zero, List.set_cons_succ]
    refine wpAnyH_take (i := 10) (oi := { dst := some 20, op := Op.call { callee := Callee.builtin Builtin.min, args := #[Operand.tmp 19, Operand.const (Value.int IntKind.i64 65536)], argTypes := #[3, 3] }, type := 3, pos := "storm.go:100", after := #[{ on := 9, ground := Ground.data }], guard := none }) (v := ?_) rfl (by as_aux_lemma => kernel_rfl) (by as_aux_lemma => kernel_rfl) (by as_aux_lemma => kernel_rfl) (fun _ _ _ h => h) (Or.inl ⟨by rfl, ?_⟩) (by assumption) ?_
    rotate_left
    · intro wq hSw
      go_simp
      try with_reducible rfl
    simp only [Act.put, List.setIfInBounds_toArray, List.set_cons_zero, List.set_cons_succ]
    refine wpAnyH_ready (rs := [2, 8, 12]) (by as_aux_lemma => kernel_rfl) (by simp) ?_
    refine AllReadyH.cons (o := { dst := some 12, op := Op.call { callee := Callee.value (Operand.func 14), args := #[Operand.tmp 11], argTypes := #[24] }, type := 57, pos := "storm.go:100", after := #[{ on := 1, ground := Ground.data }], guard := none }) rfl (fun K hK => ?_) ?_
    · go_simp
      go_at_call 14
      refine (HFR.out _).mono ?_
      rintro e w3 ⟨rfl, rfl⟩
      refine hK.out _ _ ?_ (fun hHeld => ?_)
      · first | assumption | go_grown
      clear hK K
      try simp only [Act.put, List.setIfInBounds_toArray, List.set_cons_zero, List.set_cons_succ]
      refine wpAnyH_ready (rs := [8, 12]) (by as_aux_lemma => kernel_rfl) (by simp) ?_
      refine AllReadyH.cons (o := { dst := some 18, op := Op.makeSlice 56 (Operand.tmp 17) (Operand.tmp 17), type := 56, pos := "storm.go:100", after := #[{ on := 7, ground := Ground.data }, { on := 7, ground := Ground.data }], guard := none }) rfl (fun K hK => ?_) ?_
      · go_simp
        refine hK.out _ _ ?_ (fun hHeld => ?_)
        · first | assumption | go_grown
        clear hK K
        try simp only [Act.put, List.setIfInBounds_toArray, List.set_cons_zero, List.set_cons_succ]
        refine wpAnyH_take (i := 11) (oi := { dst := some 21, op := Op.build 64 #[(0, Operand.tmp 10), (1, Operand.tmp 12), (2, Operand.tmp 13), (3, Operand.tmp 18), (5, Operand.tmp 20)], type := 64, pos := "storm.go:100", after := #[{ on := 0, ground := Ground.data }, { on := 2, ground := Ground.data }, { on := 3, ground := Ground.data }, { on := 8, ground := Ground.data }, { on := 10, ground := Ground.data }], guard := none }) (v := ?_) rfl (by as_aux_lemma => kernel_rfl) (by as_aux_lemma => kernel_rfl) (by as_aux_lemma => kernel_rfl) (fun _ _ _ h => h) (Or.inl ⟨by rfl, ?_⟩) (by assumption) ?_
        rotate_left
        · intro wq hSw
          go_simp
          try with_reducible rfl
        simp only [Act.put, List.setIfInBounds_toArray, List.set_cons_zero, List.set_cons_succ]
        refine wpAnyH_ready (rs := [12]) (by as_aux_lemma => kernel_rfl) (by simp) ?_
        refine AllReadyH.cons (o := { dst := some 9, op := Op.alloc 64, type := 0, pos := "storm.go:100", after := #[], guard := none }) rfl (fun K hK => ?_) ?_
        · go_simp
          refine hK.out _ _ ?_ (fun hHeld => ?_)
          · first | assumption | go_grown
          clear hK K
          try simp only [Act.put, List.setIfInBounds_toArray, List.set_cons_zero, List.set_cons_succ]
          refine wpAnyH_ready (rs := [13]) (by as_aux_lemma => kernel_rfl) (by simp) ?_
          refine AllReadyH.cons (o := { dst := none, op := Op.store 64 (Operand.tmp 9) (Operand.tmp 21), type := 0, pos := "storm.go:100", after := #[{ on := 12, ground := Ground.data }, { on := 11, ground := Ground.data }, { on := 2, ground := Ground.chain }, { on := 0, ground := Ground.phase }, { on := 1, ground := Ground.phase }, { on := 2, ground := Ground.phase }, { on := 3, ground := Ground.phase }, { on := 4, ground := Ground.phase }, { on := 5, ground := Ground.phase }, { on := 6, ground := Ground.phase }, { on := 7, ground := Ground.phase }, { on := 8, ground := Ground.phase }, { on := 9, ground := Ground.phase }, { on := 10, ground := Ground.phase }, { on := 11, ground := Ground.phase }, { on := 12, ground := Ground.phase }], guard := none }) rfl (fun K hK => ?_) ?_
          · rw [if_pos (by rfl)]
            refine wp_store_mid 64 (.tmp 9) (.tmp 21) rfl (W2.heap.size + 2) 0 (List.toArray [.int .i64 p, .int .i64 c, .int .i64 n, .int .i64 b, .int .i64 r, .int .i64 f, .int .i64 g, .pointer (some ⟨W2.heap.size, 0, none⟩), .int .i64 ma, .int .i64 mt, .int .i64 md, .int .i64 ms, .int .i64 mp, .int .i64 mw, .slice (some ⟨W2.heap.size + 1, 0, none⟩) np np, .int .i64 0, .int .i64 most, .slice none 0 0]) rfl rfl (start_there201 _ _ _) infoW (wbl_one ..) ?_
            refine hK.out _ _ ?_ (fun hHeld => ?_)
            · exact setCells_below (by go_grown) (by omega) _ _
            clear hK K
            try simp only [Act.put, List.setIfInBounds_toArray, List.set_cons_zero, List.set_cons_succ]
            refine wpAnyH_done (by as_aux_lemma => kernel_rfl) ?_ _
            apply meet_of
            · assumption
            go_meet
            exact ⟨W2.heap.size + 2, W2.heap.size, W2.heap.size + 1, W2.heap.size + 3, rfl, start_far _ _ _ hB2.size (by omega) (by omega) (by omega) (by omega) (by omega) (by omega), start_ws201 p c n b r f g ma mt md ms mp mw seed most np w W2 hB2⟩
          exact AllReadyH.nil
        exact AllReadyH.nil
      refine AllReadyH.cons (o := { dst := some 9, op := Op.alloc 64, type := 0, pos := "storm.go:100", after := #[], guard := none }) rfl (fun K hK => ?_) ?_
      · go_simp
        refine hK.out _ _ ?_ (fun hHeld => ?_)
        · first | assumption | go_grown
        clear hK K
        try simp only [Act.put, List.setIfInBounds_toArray, List.set_cons_zero, List.set_cons_succ]
        refine wpAnyH_ready (rs := [8]) (by as_aux_lemma => kernel_rfl) (by simp) ?_
        refine AllReadyH.cons (o := { dst := some 18, op := Op.makeSlice 56 (Operand.tmp 17) (Operand.tmp 17), type := 56, pos := "storm.go:100", after := #[{ on := 7, ground := Ground.data }, { on := 7, ground := Ground.data }], guard := none }) rfl (fun K hK => ?_) ?_
        · go_simp
          refine hK.out _ _ ?_ (fun hHeld => ?_)
          · first | assumption | go_grown
          clear hK K
          try simp only [Act.put, List.setIfInBounds_toArray, List.set_cons_zero, List.set_cons_succ]
          refine wpAnyH_take (i := 11) (oi := { dst := some 21, op := Op.build 64 #[(0, Operand.tmp 10), (1, Operand.tmp 12), (2, Operand.tmp 13), (3, Operand.tmp 18), (5, Operand.tmp 20)], type := 64, pos := "storm.go:100", after := #[{ on := 0, ground := Ground.data }, { on := 2, ground := Ground.data }, { on := 3, ground := Ground.data }, { on := 8, ground := Ground.data }, { on := 10, ground := Ground.data }], guard := none }) (v := ?_) rfl (by as_aux_lemma => kernel_rfl) (by as_aux_lemma => kernel_rfl) (by as_aux_lemma => kernel_rfl) (fun _ _ _ h => h) (Or.inl ⟨by rfl, ?_⟩) (by assumption) ?_
          rotate_left
          · intro wq hSw
            go_simp
            try with_reducible rfl
          simp only [Act.put, List.setIfInBounds_toArray, List.set_cons_zero, List.set_cons_succ]
          refine wpAnyH_ready (rs := [13]) (by as_aux_lemma => kernel_rfl) (by simp) ?_
          refine AllReadyH.cons (o := { dst := none, op := Op.store 64 (Operand.tmp 9) (Operand.tmp 21), type := 0, pos := "storm.go:100", after := #[{ on := 12, ground := Ground.data }, { on := 11, ground := Ground.data }, { on := 2, ground := Ground.chain }, { on := 0, ground := Ground.phase }, { on := 1, ground := Ground.phase }, { on := 2, ground := Ground.phase }, { on := 3, ground := Ground.phase }, { on := 4, ground := Ground.phase }, { on := 5, ground := Ground.phase }, { on := 6, ground := Ground.phase }, { on := 7, ground := Ground.phase }, { on := 8, ground := Ground.phase }, { on := 9, ground := Ground.phase }, { on := 10, ground := Ground.phase }, { on := 11, ground := Ground.phase }, { on := 12, ground := Ground.phase }], guard := none }) rfl (fun K hK => ?_) ?_
          · rw [if_pos (by rfl)]
            refine wp_store_mid 64 (.tmp 9) (.tmp 21) rfl (W2.heap.size + 1) 0 (List.toArray [.int .i64 p, .int .i64 c, .int .i64 n, .int .i64 b, .int .i64 r, .int .i64 f, .int .i64 g, .pointer (some ⟨W2.heap.size, 0, none⟩), .int .i64 ma, .int .i64 mt, .int .i64 md, .int .i64 ms, .int .i64 mp, .int .i64 mw, .slice (some ⟨W2.heap.size + 2, 0, none⟩) np np, .int .i64 0, .int .i64 most, .slice none 0 0]) rfl rfl (start_there102 _ _ _) infoW (wbl_one ..) ?_
            refine hK.out _ _ ?_ (fun hHeld => ?_)
            · exact setCells_below (by go_grown) (by omega) _ _
            clear hK K
            try simp only [Act.put, List.setIfInBounds_toArray, List.set_cons_zero, List.set_cons_succ]
            refine wpAnyH_done (by as_aux_lemma => kernel_rfl) ?_ _
            apply meet_of
            · assumption
            go_meet
            exact ⟨W2.heap.size + 1, W2.heap.size, W2.heap.size + 2, W2.heap.size + 3, rfl, start_far _ _ _ hB2.size (by omega) (by omega) (by omega) (by omega) (by omega) (by omega), start_ws102 p c n b r f g ma mt md ms mp mw seed most np w W2 hB2⟩
          exact AllReadyH.nil
        exact AllReadyH.nil
      exact AllReadyH.nil
    refine AllReadyH.cons (o := { dst := some 18, op := Op.makeSlice 56 (Operand.tmp 17) (Operand.tmp 17), type := 56, pos := "storm.go:100", after := #[{ on := 7, ground := Ground.data }, { on := 7, ground := Ground.data }], guard := none }) rfl (fun K hK => ?_) ?_
    · go_simp
      refine hK.out _ _ ?_ (fun hHeld => ?_)
      · first | assumption | go_grown
      clear hK K
      try simp only [Act.put, List.setIfInBounds_toArray, List.set_cons_zero, List.set_cons_succ]
      refine wpAnyH_ready (rs := [2, 12]) (by as_aux_lemma => kernel_rfl) (by simp) ?_
      refine AllReadyH.cons (o := { dst := some 12, op := Op.call { callee := Callee.value (Operand.func 14), args := #[Operand.tmp 11], argTypes := #[24] }, type := 57, pos := "storm.go:100", after := #[{ on := 1, ground := Ground.data }], guard := none }) rfl (fun K hK => ?_) ?_
      · go_simp
        go_at_call 14
        refine (HFR.out _).mono ?_
        rintro e w3 ⟨rfl, rfl⟩
        refine hK.out _ _ ?_ (fun hHeld => ?_)
        · first | assumption | go_grown
        clear hK K
        try simp only [Act.put, List.setIfInBounds_toArray, List.set_cons_zero, List.set_cons_succ]
        refine wpAnyH_take (i := 11) (oi := { dst := some 21, op := Op.build 64 #[(0, Operand.tmp 10), (1, Operand.tmp 12), (2, Operand.tmp 13), (3, Operand.tmp 18), (5, Operand.tmp 20)], type := 64, pos := "storm.go:100", after := #[{ on := 0, ground := Ground.data }, { on := 2, ground := Ground.data }, { on := 3, ground := Ground.data }, { on := 8, ground := Ground.data }, { on := 10, ground := Ground.data }], guard := none }) (v := ?_) rfl (by as_aux_lemma => kernel_rfl) (by as_aux_lemma => kernel_rfl) (by as_aux_lemma => kernel_rfl) (fun _ _ _ h => h) (Or.inl ⟨by rfl, ?_⟩) (by assumption) ?_
        rotate_left
        · intro wq hSw
          go_simp
          try with_reducible rfl
        simp only [Act.put, List.setIfInBounds_toArray, List.set_cons_zero, List.set_cons_succ]
        refine wpAnyH_ready (rs := [12]) (by as_aux_lemma => kernel_rfl) (by simp) ?_
        refine AllReadyH.cons (o := { dst := some 9, op := Op.alloc 64, type := 0, pos := "storm.go:100", after := #[], guard := none }) rfl (fun K hK => ?_) ?_
        · go_simp
          refine hK.out _ _ ?_ (fun hHeld => ?_)
          · first | assumption | go_grown
          clear hK K
          try simp only [Act.put, List.setIfInBounds_toArray, List.set_cons_zero, List.set_cons_succ]
          refine wpAnyH_ready (rs := [13]) (by as_aux_lemma => kernel_rfl) (by simp) ?_
          refine AllReadyH.cons (o := { dst := none, op := Op.store 64 (Operand.tmp 9) (Operand.tmp 21), type := 0, pos := "storm.go:100", after := #[{ on := 12, ground := Ground.data }, { on := 11, ground := Ground.data }, { on := 2, ground := Ground.chain }, { on := 0, ground := Ground.phase }, { on := 1, ground := Ground.phase }, { on := 2, ground := Ground.phase }, { on := 3, ground := Ground.phase }, { on := 4, ground := Ground.phase }, { on := 5, ground := Ground.phase }, { on := 6, ground := Ground.phase }, { on := 7, ground := Ground.phase }, { on := 8, ground := Ground.phase }, { on := 9, ground := Ground.phase }, { on := 10, ground := Ground.phase }, { on := 11, ground := Ground.phase }, { on := 12, ground := Ground.phase }], guard := none }) rfl (fun K hK => ?_) ?_
          · rw [if_pos (by rfl)]
            refine wp_store_mid 64 (.tmp 9) (.tmp 21) rfl (W2.heap.size + 2) 0 (List.toArray [.int .i64 p, .int .i64 c, .int .i64 n, .int .i64 b, .int .i64 r, .int .i64 f, .int .i64 g, .pointer (some ⟨W2.heap.size + 1, 0, none⟩), .int .i64 ma, .int .i64 mt, .int .i64 md, .int .i64 ms, .int .i64 mp, .int .i64 mw, .slice (some ⟨W2.heap.size, 0, none⟩) np np, .int .i64 0, .int .i64 most, .slice none 0 0]) rfl rfl (start_there210 _ _ _) infoW (wbl_one ..) ?_
            refine hK.out _ _ ?_ (fun hHeld => ?_)
            · exact setCells_below (by go_grown) (by omega) _ _
            clear hK K
            try simp only [Act.put, List.setIfInBounds_toArray, List.set_cons_zero, List.set_cons_succ]
            refine wpAnyH_done (by as_aux_lemma => kernel_rfl) ?_ _
            apply meet_of
            · assumption
            go_meet
            exact ⟨W2.heap.size + 2, W2.heap.size + 1, W2.heap.size, W2.heap.size + 3, rfl, start_far _ _ _ hB2.size (by omega) (by omega) (by omega) (by omega) (by omega) (by omega), start_ws210 p c n b r f g ma mt md ms mp mw seed most np w W2 hB2⟩
          exact AllReadyH.nil
        exact AllReadyH.nil
      refine AllReadyH.cons (o := { dst := some 9, op := Op.alloc 64, type := 0, pos := "storm.go:100", after := #[], guard := none }) rfl (fun K hK => ?_) ?_
      · go_simp
        refine hK.out _ _ ?_ (fun hHeld => ?_)
        · first | assumption | go_grown
        clear hK K
        try simp only [Act.put, List.setIfInBounds_toArray, List.set_cons_zero, List.set_cons_succ]
        refine wpAnyH_ready (rs := [2]) (by as_aux_lemma => kernel_rfl) (by simp) ?_
        refine AllReadyH.cons (o := { dst := some 12, op := Op.call { callee := Callee.value (Operand.func 14), args := #[Operand.tmp 11], argTypes := #[24] }, type := 57, pos := "storm.go:100", after := #[{ on := 1, ground := Ground.data }], guard := none }) rfl (fun K hK => ?_) ?_
        · go_simp
          go_at_call 14
          refine (HFR.out _).mono ?_
          rintro e w3 ⟨rfl, rfl⟩
          refine hK.out _ _ ?_ (fun hHeld => ?_)
          · first | assumption | go_grown
          clear hK K
          try simp only [Act.put, List.setIfInBounds_toArray, List.set_cons_zero, List.set_cons_succ]
          refine wpAnyH_take (i := 11) (oi := { dst := some 21, op := Op.build 64 #[(0, Operand.tmp 10), (1, Operand.tmp 12), (2, Operand.tmp 13), (3, Operand.tmp 18), (5, Operand.tmp 20)], type := 64, pos := "storm.go:100", after := #[{ on := 0, ground := Ground.data }, { on := 2, ground := Ground.data }, { on := 3, ground := Ground.data }, { on := 8, ground := Ground.data }, { on := 10, ground := Ground.data }], guard := none }) (v := ?_) rfl (by as_aux_lemma => kernel_rfl) (by as_aux_lemma => kernel_rfl) (by as_aux_lemma => kernel_rfl) (fun _ _ _ h => h) (Or.inl ⟨by rfl, ?_⟩) (by assumption) ?_
          rotate_left
          · intro wq hSw
            go_simp
            try with_reducible rfl
          simp only [Act.put, List.setIfInBounds_toArray, List.set_cons_zero, List.set_cons_succ]
          refine wpAnyH_ready (rs := [13]) (by as_aux_lemma => kernel_rfl) (by simp) ?_
          refine AllReadyH.cons (o := { dst := none, op := Op.store 64 (Operand.tmp 9) (Operand.tmp 21), type := 0, pos := "storm.go:100", after := #[{ on := 12, ground := Ground.data }, { on := 11, ground := Ground.data }, { on := 2, ground := Ground.chain }, { on := 0, ground := Ground.phase }, { on := 1, ground := Ground.phase }, { on := 2, ground := Ground.phase }, { on := 3, ground := Ground.phase }, { on := 4, ground := Ground.phase }, { on := 5, ground := Ground.phase }, { on := 6, ground := Ground.phase }, { on := 7, ground := Ground.phase }, { on := 8, ground := Ground.phase }, { on := 9, ground := Ground.phase }, { on := 10, ground := Ground.phase }, { on := 11, ground := Ground.phase }, { on := 12, ground := Ground.phase }], guard := none }) rfl (fun K hK => ?_) ?_
          · rw [if_pos (by rfl)]
            refine wp_store_mid 64 (.tmp 9) (.tmp 21) rfl (W2.heap.size + 1) 0 (List.toArray [.int .i64 p, .int .i64 c, .int .i64 n, .int .i64 b, .int .i64 r, .int .i64 f, .int .i64 g, .pointer (some ⟨W2.heap.size + 2, 0, none⟩), .int .i64 ma, .int .i64 mt, .int .i64 md, .int .i64 ms, .int .i64 mp, .int .i64 mw, .slice (some ⟨W2.heap.size, 0, none⟩) np np, .int .i64 0, .int .i64 most, .slice none 0 0]) rfl rfl (start_there120 _ _ _) infoW (wbl_one ..) ?_
            refine hK.out _ _ ?_ (fun hHeld => ?_)
            · exact setCells_below (by go_grown) (by omega) _ _
            clear hK K
            try simp only [Act.put, List.setIfInBounds_toArray, List.set_cons_zero, List.set_cons_succ]
            refine wpAnyH_done (by as_aux_lemma => kernel_rfl) ?_ _
            apply meet_of
            · assumption
            go_meet
            exact ⟨W2.heap.size + 1, W2.heap.size + 2, W2.heap.size, W2.heap.size + 3, rfl, start_far _ _ _ hB2.size (by omega) (by omega) (by omega) (by omega) (by omega) (by omega), start_ws120 p c n b r f g ma mt md ms mp mw seed most np w W2 hB2⟩
          exact AllReadyH.nil
        exact AllReadyH.nil
      exact AllReadyH.nil
    refine AllReadyH.cons (o := { dst := some 9, op := Op.alloc 64, type := 0, pos := "storm.go:100", after := #[], guard := none }) rfl (fun K hK => ?_) ?_
    · go_simp
      refine hK.out _ _ ?_ (fun hHeld => ?_)
      · first | assumption | go_grown
      clear hK K
      try simp only [Act.put, List.setIfInBounds_toArray, List.set_cons_zero, List.set_cons_succ]
      refine wpAnyH_ready (rs := [2, 8]) (by as_aux_lemma => kernel_rfl) (by simp) ?_
      refine AllReadyH.cons (o := { dst := some 12, op := Op.call { callee := Callee.value (Operand.func 14), args := #[Operand.tmp 11], argTypes := #[24] }, type := 57, pos := "storm.go:100", after := #[{ on := 1, ground := Ground.data }], guard := none }) rfl (fun K hK => ?_) ?_
      · go_simp
        go_at_call 14
        refine (HFR.out _).mono ?_
        rintro e w3 ⟨rfl, rfl⟩
        refine hK.out _ _ ?_ (fun hHeld => ?_)
        · first | assumption | go_grown
        clear hK K
        try simp only [Act.put, List.setIfInBounds_toArray, List.set_cons_zero, List.set_cons_succ]
        refine wpAnyH_ready (rs := [8]) (by as_aux_lemma => kernel_rfl) (by simp) ?_
        refine AllReadyH.cons (o := { dst := some 18, op := Op.makeSlice 56 (Operand.tmp 17) (Operand.tmp 17), type := 56, pos := "storm.go:100", after := #[{ on := 7, ground := Ground.data }, { on := 7, ground := Ground.data }], guard := none }) rfl (fun K hK => ?_) ?_
        · go_simp
          refine hK.out _ _ ?_ (fun hHeld => ?_)
          · first | assumption | go_grown
          clear hK K
          try simp only [Act.put, List.setIfInBounds_toArray, List.set_cons_zero, List.set_cons_succ]
          refine wpAnyH_take (i := 11) (oi := { dst := some 21, op := Op.build 64 #[(0, Operand.tmp 10), (1, Operand.tmp 12), (2, Operand.tmp 13), (3, Operand.tmp 18), (5, Operand.tmp 20)], type := 64, pos := "storm.go:100", after := #[{ on := 0, ground := Ground.data }, { on := 2, ground := Ground.data }, { on := 3, ground := Ground.data }, { on := 8, ground := Ground.data }, { on := 10, ground := Ground.data }], guard := none }) (v := ?_) rfl (by as_aux_lemma => kernel_rfl) (by as_aux_lemma => kernel_rfl) (by as_aux_lemma => kernel_rfl) (fun _ _ _ h => h) (Or.inl ⟨by rfl, ?_⟩) (by assumption) ?_
          rotate_left
          · intro wq hSw
            go_simp
            try with_reducible rfl
          simp only [Act.put, List.setIfInBounds_toArray, List.set_cons_zero, List.set_cons_succ]
          refine wpAnyH_ready (rs := [13]) (by as_aux_lemma => kernel_rfl) (by simp) ?_
          refine AllReadyH.cons (o := { dst := none, op := Op.store 64 (Operand.tmp 9) (Operand.tmp 21), type := 0, pos := "storm.go:100", after := #[{ on := 12, ground := Ground.data }, { on := 11, ground := Ground.data }, { on := 2, ground := Ground.chain }, { on := 0, ground := Ground.phase }, { on := 1, ground := Ground.phase }, { on := 2, ground := Ground.phase }, { on := 3, ground := Ground.phase }, { on := 4, ground := Ground.phase }, { on := 5, ground := Ground.phase }, { on := 6, ground := Ground.phase }, { on := 7, ground := Ground.phase }, { on := 8, ground := Ground.phase }, { on := 9, ground := Ground.phase }, { on := 10, ground := Ground.phase }, { on := 11, ground := Ground.phase }, { on := 12, ground := Ground.phase }], guard := none }) rfl (fun K hK => ?_) ?_
          · rw [if_pos (by rfl)]
            refine wp_store_mid 64 (.tmp 9) (.tmp 21) rfl (W2.heap.size) 0 (List.toArray [.int .i64 p, .int .i64 c, .int .i64 n, .int .i64 b, .int .i64 r, .int .i64 f, .int .i64 g, .pointer (some ⟨W2.heap.size + 1, 0, none⟩), .int .i64 ma, .int .i64 mt, .int .i64 md, .int .i64 ms, .int .i64 mp, .int .i64 mw, .slice (some ⟨W2.heap.size + 2, 0, none⟩) np np, .int .i64 0, .int .i64 most, .slice none 0 0]) rfl rfl (start_there012 _ _ _) infoW (wbl_one ..) ?_
            refine hK.out _ _ ?_ (fun hHeld => ?_)
            · exact setCells_below (by go_grown) (by omega) _ _
            clear hK K
            try simp only [Act.put, List.setIfInBounds_toArray, List.set_cons_zero, List.set_cons_succ]
            refine wpAnyH_done (by as_aux_lemma => kernel_rfl) ?_ _
            apply meet_of
            · assumption
            go_meet
            exact ⟨W2.heap.size, W2.heap.size + 1, W2.heap.size + 2, W2.heap.size + 3, rfl, start_far _ _ _ hB2.size (by omega) (by omega) (by omega) (by omega) (by omega) (by omega), start_ws012 p c n b r f g ma mt md ms mp mw seed most np w W2 hB2⟩
          exact AllReadyH.nil
        exact AllReadyH.nil
      refine AllReadyH.cons (o := { dst := some 18, op := Op.makeSlice 56 (Operand.tmp 17) (Operand.tmp 17), type := 56, pos := "storm.go:100", after := #[{ on := 7, ground := Ground.data }, { on := 7, ground := Ground.data }], guard := none }) rfl (fun K hK => ?_) ?_
      · go_simp
        refine hK.out _ _ ?_ (fun hHeld => ?_)
        · first | assumption | go_grown
        clear hK K
        try simp only [Act.put, List.setIfInBounds_toArray, List.set_cons_zero, List.set_cons_succ]
        refine wpAnyH_ready (rs := [2]) (by as_aux_lemma => kernel_rfl) (by simp) ?_
        refine AllReadyH.cons (o := { dst := some 12, op := Op.call { callee := Callee.value (Operand.func 14), args := #[Operand.tmp 11], argTypes := #[24] }, type := 57, pos := "storm.go:100", after := #[{ on := 1, ground := Ground.data }], guard := none }) rfl (fun K hK => ?_) ?_
        · go_simp
          go_at_call 14
          refine (HFR.out _).mono ?_
          rintro e w3 ⟨rfl, rfl⟩
          refine hK.out _ _ ?_ (fun hHeld => ?_)
          · first | assumption | go_grown
          clear hK K
          try simp only [Act.put, List.setIfInBounds_toArray, List.set_cons_zero, List.set_cons_succ]
          refine wpAnyH_take (i := 11) (oi := { dst := some 21, op := Op.build 64 #[(0, Operand.tmp 10), (1, Operand.tmp 12), (2, Operand.tmp 13), (3, Operand.tmp 18), (5, Operand.tmp 20)], type := 64, pos := "storm.go:100", after := #[{ on := 0, ground := Ground.data }, { on := 2, ground := Ground.data }, { on := 3, ground := Ground.data }, { on := 8, ground := Ground.data }, { on := 10, ground := Ground.data }], guard := none }) (v := ?_) rfl (by as_aux_lemma => kernel_rfl) (by as_aux_lemma => kernel_rfl) (by as_aux_lemma => kernel_rfl) (fun _ _ _ h => h) (Or.inl ⟨by rfl, ?_⟩) (by assumption) ?_
          rotate_left
          · intro wq hSw
            go_simp
            try with_reducible rfl
          simp only [Act.put, List.setIfInBounds_toArray, List.set_cons_zero, List.set_cons_succ]
          refine wpAnyH_ready (rs := [13]) (by as_aux_lemma => kernel_rfl) (by simp) ?_
          refine AllReadyH.cons (o := { dst := none, op := Op.store 64 (Operand.tmp 9) (Operand.tmp 21), type := 0, pos := "storm.go:100", after := #[{ on := 12, ground := Ground.data }, { on := 11, ground := Ground.data }, { on := 2, ground := Ground.chain }, { on := 0, ground := Ground.phase }, { on := 1, ground := Ground.phase }, { on := 2, ground := Ground.phase }, { on := 3, ground := Ground.phase }, { on := 4, ground := Ground.phase }, { on := 5, ground := Ground.phase }, { on := 6, ground := Ground.phase }, { on := 7, ground := Ground.phase }, { on := 8, ground := Ground.phase }, { on := 9, ground := Ground.phase }, { on := 10, ground := Ground.phase }, { on := 11, ground := Ground.phase }, { on := 12, ground := Ground.phase }], guard := none }) rfl (fun K hK => ?_) ?_
          · rw [if_pos (by rfl)]
            refine wp_store_mid 64 (.tmp 9) (.tmp 21) rfl (W2.heap.size) 0 (List.toArray [.int .i64 p, .int .i64 c, .int .i64 n, .int .i64 b, .int .i64 r, .int .i64 f, .int .i64 g, .pointer (some ⟨W2.heap.size + 2, 0, none⟩), .int .i64 ma, .int .i64 mt, .int .i64 md, .int .i64 ms, .int .i64 mp, .int .i64 mw, .slice (some ⟨W2.heap.size + 1, 0, none⟩) np np, .int .i64 0, .int .i64 most, .slice none 0 0]) rfl rfl (start_there021 _ _ _) infoW (wbl_one ..) ?_
            refine hK.out _ _ ?_ (fun hHeld => ?_)
            · exact setCells_below (by go_grown) (by omega) _ _
            clear hK K
            try simp only [Act.put, List.setIfInBounds_toArray, List.set_cons_zero, List.set_cons_succ]
            refine wpAnyH_done (by as_aux_lemma => kernel_rfl) ?_ _
            apply meet_of
            · assumption
            go_meet
            exact ⟨W2.heap.size, W2.heap.size + 2, W2.heap.size + 1, W2.heap.size + 3, rfl, start_far _ _ _ hB2.size (by omega) (by omega) (by omega) (by omega) (by omega) (by omega), start_ws021 p c n b r f g ma mt md ms mp mw seed most np w W2 hB2⟩
          exact AllReadyH.nil
        exact AllReadyH.nil
      exact AllReadyH.nil
    exact AllReadyH.nil
  case rest =>
    obtain ⟨B, S, I, K, rfl, hd, HM0⟩ := hcut
    have hwK : w.heap.size ≤ K := by have := hd.wB; have := hd.kB; omega
    clear hkk HFR e1 e2 hmk
    have HD := Lib.hid (fun (wr : World) (k : Nat) (v : Value) (h : WS w wr B S I K np p c n b r f g ma mt md ms mp mw most (itS p c n b ma mt md ms mp mw seed k).1.1 (itS p c n b ma mt md ms mp mw seed k).1.2.1 (itS p c n b ma mt md ms mp mw seed k).1.2.2 v ((itS p c n b ma mt md ms mp mw seed k).2.take most.toNat)) (hlm : ((((itS p c n b ma mt md ms mp mw seed k).2.take most.toNat).length : Nat) : Int) < most) => draw_next w wr B S I K np p c n b r f g ma mt md ms mp mw seed most k v hd h hp hc hn hb hm1 hm2 hm3 hm4 hm5 hm6 hmost hnp hlm)
    have HE := Lib.hid (fun (wr : World) (k : Nat) (v : Value) (h : WS w wr B S I K np p c n b r f g ma mt md ms mp mw most (itS p c n b ma mt md ms mp mw seed k).1.1 (itS p c n b ma mt md ms mp mw seed k).1.2.1 (itS p c n b ma mt md ms mp mw seed k).1.2.2 v ((itS p c n b ma mt md ms mp mw seed k).2.take most.toNat)) (hlm : most ≤ ((((itS p c n b ma mt md ms mp mw seed k).2.take most.toNat).length : Nat) : Int)) => draw_end w wr B S I K np p c n b r f g ma mt md ms mp mw seed most k v h hwK (Int.not_lt.2 hlm))
    clear hp hc hn hb hm1 hm2 hm3 hm4 hm5 hm6 hmost hnp hd hwK
    go_wp2_with fail
    go_loopw [] (fun wr => ∃ (k : Nat) (v : Value), Hid (WS w wr B S I K np p c n b r f g ma mt md ms mp mw most (itS p c n b ma mt md ms mp mw seed k).1.1 (itS p c n b ma mt md ms mp mw seed k).1.2.1 (itS p c n b ma mt md ms mp mw seed k).1.2.2 v ((itS p c n b ma mt md ms mp mw seed k).2.take most.toNat))) (fun wr => todo B most wr)
    case atStart => exact ⟨0, _, HM0⟩
    case round =>
      clear HM0
      obtain ⟨k, v, HM⟩ := hrel
      obtain ⟨Av, cv, rfl⟩ := own_shape HM.out.row
      have m16 := HM.out.blk.cell 16 _ rfl
      have m17 := HM.out.blk.cell 17 _ rfl
      by_cases hlm : ((((itS p c n b ma mt md ms mp mw seed k).2.take most.toNat).length : Nat) : Int) < most
      · have HX := Lib.hid (HD.out _ k _ HM.out hlm)
        have HT := Lib.hid (todo_is (most := most) m17)
        have HL := Lib.hid hlm
        generalize hll : ((itS p c n b ma mt md ms mp mw seed k).2.take most.toNat).length = ll at *
        go_wp2_with fail
        refine HX.out.mono ?_
        rintro e w2 ⟨q, v2, rfl, hM2, hl2⟩
        have HM2 := Lib.hid hM2
        have HL2 := Lib.hid hl2
        clear hM2 hl2
        go_wp2_with fail
        go_roundw
        case rel => exact ⟨k + 1, v2, HM2⟩
        case measure =>
          obtain ⟨A2, c2, rfl⟩ := own_shape HM2.out.row
          rw [HT.out, todo_is (most := most) (HM2.out.blk.cell 17 _ rfl)]
          have h1 := HL2.out
          have h2 := HL.out
          omega
      · have HX := Lib.hid (HE.out _ k _ HM.out (by omega))
        have hdd : decide (((((itS p c n b ma mt md ms mp mw seed k).2.take most.toNat).length : Nat) : Int) < most) = false := decide_eq_false hlm
        generalize hll : ((itS p c n b ma mt md ms mp mw seed k).2.take most.toNat).length = ll at *
        clear hlm
        go_wp2_with fail
        go_ret
        obtain ⟨h1, h2, h3⟩ := HX.out
        subst h1
        exact ⟨Av, cv, rfl, h2, h3⟩
end Go.Proofs.Ytgakgnofflnjoaa

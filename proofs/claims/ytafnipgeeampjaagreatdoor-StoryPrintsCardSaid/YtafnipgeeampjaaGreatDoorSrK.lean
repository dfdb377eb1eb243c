/-
  Blocks known whole; an error of a place.
-/
import Derived.Test.YtafnipgeeampjaaGreatDoorRows
import Derived.Test.YtafnipgeeampjaaGreatDoorKit
import Derived.Test.YtafnipgeeampjaaGreatDoorApp
import Derived.Test.YtafnipgeeampjaaGreatDoorQuiet
import Derived.WalkKit
import Derived.ProofKit
import Derived.OpenShut
import Derived.ShutString
import Derived.Below
import Derived.Outline
import Derived.WalkLawsBesides
import Derived.WalkSpells
import Derived.Handy
import Derived.Deep.QuietTactic
import Derived.BigQuiet
import Derived.RegionTactic
import Derived.ChangeAlike
import Derived.Lib.Hide
import Derived.Laws.Rows
import Derived.Laws.Tables
import Derived.Laws.CopyOwn
import Derived.Laws.MakeOwn
import Derived.Laws.Entries
import Derived.Laws.OwnMore
import Derived.Deep.WholeRow
import Derived.Deep.LoopGhost
import Derived.Deep.AppendLies
import Derived.Deep.Draws
import Derived.Maps.AppendAt
import Derived.OwnWalk
import Derived.Deep.RegionHeld3
import Derived.Deep.Cut
import Derived.Deep.CutRange
import Derived.Deep.DeepCutAuto
import Derived.Deep.CutBlock
import Derived.Lib.SliceRun
import Derived.IntWalk
import Derived.Laws.Strings
import Derived.Test.YtafnipgeeampjaaGreatDoorLnD
import Derived.Deep.Slices
import Derived.Deep.Fields
import Derived.ChangeSame
import Derived.ChangeArms
import Derived.Deep.MidRow
import Derived.Deep.Upon
namespace Go.Proofs.YtafnipgeeampjaaGreatDoor
open Go.ChangeShapes Go.WideShapes Go.ChangeAt Go.RowKit
def Bl (B : Nat) (l : List Value) (w : World) : Prop := ∃ t, w.heap[B]? = some (.cells l.toArray t (0, 0))
theorem Bl.lt {B : Nat} {l : List Value} {w : World} (h : Bl B l w) : B < w.heap.size := by
  obtain ⟨t, hh⟩ := h
  exact (Array.getElem?_eq_some_iff.1 hh).1
theorem Bl.cell {B : Nat} {l : List Value} {w : World} (h : Bl B l w) (j : Nat) (u : Value) (hu : l[j]? = some u) : w.cell? ⟨B, j, none⟩ = some u := by
  obtain ⟨t, hh⟩ := h
  rw [cell_of_row _ _ _ _ _ _ hh]; simpa using hu
theorem Bl.frz {B : Nat} {l : List Value} {w : World} (h : Bl B l w) (j : Nat) : w.frozen? ⟨B, j, none⟩ = false := by
  obtain ⟨t, hh⟩ := h
  simp [World.frozen?, hh]
theorem Bl.new (w : World) (cs : List Value) (t : TypeId) : Bl w.heap.size cs (w.alloc (.cells cs.toArray t)) := ⟨t, heap_alloc_new w (.cells cs.toArray t)⟩
theorem Bl.below {B : Nat} {l : List Value} {w w' : World} (h : Bl B l w) (hb : Below w.heap.size w w') : Bl B l w' := by
  have hl := h.lt
  obtain ⟨t, hh⟩ := h
  exact ⟨t, (hb.block B hl).trans hh⟩
theorem Bl.far {B : Nat} {l : List Value} {w : World} (h : Bl B l w) {p : Addr} (hne : p.block ≠ B) (u : Value) : Bl B l (w.setCell p u) := by
  obtain ⟨t, hh⟩ := h
  exact ⟨t, (Below.heap_setCell w p u B (fun e => hne e.symm)).trans hh⟩
theorem Bl.set {B : Nat} {l : List Value} {w : World} (h : Bl B l w) (j : Nat) (u : Value) : Bl B (l.set j u) (w.setCell ⟨B, j, none⟩ u) := by
  obtain ⟨t, hh⟩ := h
  refine ⟨t, ?_⟩
  simp [World.setCell, Array.getElem?_modify, hh]
theorem blk_set {w : World} {g : Nat} {t : TypeId} {cs : Array Value} (h : w.heap[g]? = some (.cells cs t (0, 0))) (i : Nat) (u : Value) : (w.setCell ⟨g, i, none⟩ u).heap[g]? = some (.cells (cs.setIfInBounds i u) t (0, 0)) := by
  simp [World.setCell, Array.getElem?_modify, h]
theorem blk_far {w : World} {g : Nat} {o : Obj} (h : w.heap[g]? = some o) {p : Addr} (hp : g ≠ p.block) (u : Value) : (w.setCell p u).heap[g]? = some o := (Below.heap_setCell w p u g hp).trans h
theorem blk_frozen {w : World} {g : Nat} {t : TypeId} {cs : Array Value} (h : w.heap[g]? = some (.cells cs t (0, 0))) (i : Nat) : w.frozen? ⟨g, i, none⟩ = false := by
  simp [World.frozen?, h]
theorem blk_lt {w : World} {g : Nat} {o : Obj} (h : w.heap[g]? = some o) : g < w.heap.size := by
  rcases Nat.lt_or_ge g w.heap.size with hlt | hge
  · exact hlt
  · rw [Array.getElem?_eq_none hge] at h; cases h

theorem oshape {w : World} {base : Nat} {e : TypeId} {size : Nat} {v : Value} {n : Nat} {xs : List Value} (h : w.ownsRow base e size v n xs) : ∃ A c, v = .slice A n c := by
  rcases h.2 with ⟨rfl, rfl⟩ | ⟨g, cap, cur, hv, _⟩
  · exact ⟨_, _, rfl⟩
  · exact ⟨_, _, hv⟩
theorem rkept {w wx : World} {base : Nat} {e : TypeId} {size m : Nat} {v : Value} {xs : List Value} (h : w.ownsRow base e size v m xs) (hb : Below w.heap.size w wx) : wx.ownsRow base e size v m xs := by
  refine ⟨h.1, ?_⟩
  rcases h.2 with h0 | ⟨g, cap, cur, hv, hg, hgh, hr⟩
  · exact .inl h0
  · have hlt : g < w.heap.size := by
      rcases Nat.lt_or_ge g w.heap.size with hlt | hge
      · exact hlt
      · rw [Array.getElem?_eq_none hge] at hgh; cases hgh
    exact .inr ⟨g, cap, cur, hv, hg, (hb.block g hlt).trans hgh, hr⟩

theorem rfar {wr w' : World} {base : Nat} {e : TypeId} {size m : Nat} {u : Value} {xs : List Value} (h : wr.ownsRow base e size u m xs) (hk : ∀ k, base ≤ k → k < wr.heap.size → w'.heap[k]? = wr.heap[k]?) : w'.ownsRow base e size u m xs := by
  refine ⟨h.1, ?_⟩
  rcases h.2 with h0 | ⟨g, cap, cur, hv, hg, hgh, hr⟩
  · exact .inl h0
  · have hlt : g < wr.heap.size := by
      rcases Nat.lt_or_ge g wr.heap.size with hlt | hge
      · exact hlt
      · rw [Array.getElem?_eq_none hge] at hgh; cases hgh
    exact .inr ⟨g, cap, cur, hv, hg, (hk g hg hlt).trans hgh, hr⟩
theorem reads_newN (w : World) (n s : Nat) (l : List Value) (t : TypeId) (hl : l.length = n * s) : Reads (w.alloc (.cells l.toArray t)) (w.heap.size + 1) s (some ⟨w.heap.size, 0, none⟩) n l := by
  refine ⟨hl, fun _ => ⟨_, rfl, by show w.heap.size < w.heap.size + 1; omega, fun j u hu => ?_⟩⟩
  have hg := heap_alloc_new w (.cells l.toArray t)
  unfold Addr.add
  by_cases h0 : j = 0
  · subst h0
    simp only [if_true]
    rw [cell_of_row _ _ _ _ _ _ hg]
    simpa using hu
  · simp only [h0, if_false, Nat.zero_add]
    rw [cell_of_row _ _ _ _ _ _ hg]
    simpa using hu
theorem addp (a : Addr) (i : Nat) (hi : i ≠ 0) (h : a.spot = none) : a.add i = ⟨a.block, a.off + i, none⟩ := by
  unfold Addr.add
  rw [if_neg hi]
theorem setCells_row (t : TypeId) (B : Nat) : ∀ (vs pre cs0 : List Value) (w : World), w.heap[B]? = some (.cells (pre ++ cs0).toArray t (0, 0)) → vs.length = cs0.length → (w.setCells B pre.length vs).heap[B]? = some (.cells (pre ++ vs).toArray t (0, 0))
  | [], pre, cs0, w, h, hl => by
    have : cs0 = [] := List.length_eq_zero_iff.1 hl.symm
    subst this
    exact h
  | v :: r, pre, cs0, w, h, hl => by
    obtain ⟨c, cs', rfl⟩ : ∃ c cs', cs0 = c :: cs' := List.exists_cons_of_ne_nil (by intro e; rw [e] at hl; cases hl)
    have h1 := blk_set h pre.length v
    have h2 : (pre ++ c :: cs').toArray.setIfInBounds pre.length v = ((pre ++ [v]) ++ cs').toArray := by
      rw [List.setIfInBounds_toArray, List.set_append_right _ _ (Nat.le_refl _), Nat.sub_self, List.set_cons_zero, List.append_assoc]
      rfl
    rw [h2] at h1
    have h3 := setCells_row t B r (pre ++ [v]) cs' _ h1 (by simpa using hl)
    rw [List.length_append] at h3
    rw [show pre ++ v :: r = pre ++ [v] ++ r from by rw [List.append_assoc]; rfl]
    exact h3
theorem there_row {B : Nat} {cs : Array Value} {t : TypeId} {w : World} (h : w.heap[B]? = some (.cells cs t (0, 0))) : w.there B 0 cs.size := fun j hj => by
  rw [Nat.zero_add]
  refine ⟨?_, blk_frozen h j⟩
  rw [cell_of_row _ _ _ _ _ _ h, Array.getElem?_eq_getElem hj]
  rfl
theorem setCells_below {b B : Nat} {a w : World} (h : Below b a w) (hB : b ≤ B) : ∀ (vs : List Value) (o : Nat), Below b a (w.setCells B o vs)
  | [], _ => h
  | v :: r, o => setCells_below (h.setCell (p := ⟨B, o, none⟩) hB v) hB r (o + 1)
theorem setCells_size (B : Nat) : ∀ (vs : List Value) (o : Nat) (w : World), (w.setCells B o vs).heap.size = w.heap.size
  | [], _, _ => rfl
  | v :: r, o, w => by rw [World.setCells, setCells_size B r (o + 1)]; simp
/-- A whole struct stored over a block that is known whole. -/
theorem wp_store_bl {P : Program} {op : Oper} {a : Act} {w : World} {K : Act → World → Prop} {Q : Exit → Act → World → Prop} (ty : TypeId) (x y : Operand) (ho : op.op = .store ty x y)
    (b : Nat) (l cells : List Value) (hx : a.eval x = .pointer (some ⟨b, 0, none⟩)) (hy : a.eval y = .agg cells.toArray) (hb : Bl b l w) (hn : cells.length = l.length)
    (hi : (P.info? ty).map (·.size) = some cells.length) (h1 : cells.all (·.oneCell') = true)
    (h : ∀ w1, Bl b cells w1 → (∀ k, k ≠ b → k < w.heap.size → w1.heap[k]? = w.heap[k]?) → w1.heap.size = w.heap.size → (∀ (base : Nat) (w0 : World), base ≤ b → Below base w0 w → Below base w0 w1) → K (a.put op.dst undef) w1) : op.wp P a w K Q := by
  have hl := hb.lt
  obtain ⟨t, hh⟩ := hb
  have ht : w.there b 0 cells.toArray.size := by
    have := there_row hh
    simpa [hn] using this
  refine wp_store_mid ty x y ho b 0 cells.toArray hx hy ht (by simpa using hi) (by simpa using h1) (h _ ⟨t, ?_⟩ (fun k hk hlt => ?_) (setCells_size _ _ _ _) (fun base w0 hb hw => setCells_below hw hb _ _))
  · have := setCells_row t b cells [] l w (by simpa using hh) hn
    simpa using this
  · exact World.heap_setCells_other w b 0 _ hlt hk
theorem wpList_store_bl {P : Program} {ops : Array Oper} {rest : List Oper} {op : Oper} {a : Act} {w : World} {Q : Exit → Act → World → Prop} (hgd : op.guard = none) (ty : TypeId) (x y : Operand) (ho : op.op = .store ty x y)
    (b : Nat) (l cells : List Value) (hx : a.eval x = .pointer (some ⟨b, 0, none⟩)) (hy : a.eval y = .agg cells.toArray) (hb : Bl b l w) (hn : cells.length = l.length)
    (hi : (P.info? ty).map (·.size) = some cells.length) (h1 : cells.all (·.oneCell') = true)
    (h : ∀ w1, Bl b cells w1 → (∀ k, k ≠ b → k < w.heap.size → w1.heap[k]? = w.heap[k]?) → w1.heap.size = w.heap.size → (∀ (base : Nat) (w0 : World), base ≤ b → Below base w0 w → Below base w0 w1) → wpList P ops Q rest (a.put op.dst undef) w1) : wpList P ops Q (op :: rest) a w :=
  wpList_plain hgd fun _ hK => wp_store_bl ty x y ho b l cells hx hy hb hn hi h1 fun w1 a1 a2 a3 a4 => hK _ _ (h w1 a1 a2 a3 a4)
theorem results_bl {P : Program} {fn : Func} {p : Tmp} {ty : TypeId} (h : fn.results = #[.cell p ty]) (tmps : Array Value) (w : World) (g : Nat) (l : List Value) (d : TypeDesc)
    (hp : tmps.getD p undef = .pointer (some ⟨g, 0, none⟩)) (hg : Bl g l w)
    (hu : P.underlying ty = some d) (hd : (match d with | .struct _ | .array _ _ => true | _ => false) = true) (hi : (P.info? ty).map (·.size) = some l.length) :
    (results fn tmps).run P w = .ok (.agg l.toArray) w := by
  obtain ⟨t, hh⟩ := hg
  exact results_cell_row h tmps w g t l.toArray (0, 0) d hp hh hu hd (by simpa using hi)
theorem results_two {P : Program} {fn : Func} {p q : Tmp} {ty : TypeId} (h : fn.results = #[.cell p ty, .tmp q]) (tmps : Array Value) (w : World) (g : Nat) (l : List Value) (d : TypeDesc) (v : Value)
    (hp : tmps.getD p undef = .pointer (some ⟨g, 0, none⟩)) (hq : tmps.getD q undef = v) (hg : Bl g l w)
    (hu : P.underlying ty = some d) (hd : (match d with | .struct _ | .array _ _ => true | _ => false) = true) (hi : (P.info? ty).map (·.size) = some l.length) :
    (results fn tmps).run P w = .ok (.tuple #[.agg l.toArray, v]) w := by
  obtain ⟨t, hh⟩ := hg
  have hp' : tmps[p]?.getD undef = .pointer (some ⟨g, 0, none⟩) := by simpa using hp
  have hq' : tmps[q]?.getD undef = v := by simpa using hq
  have hrun := run_loadVar_row w g t ty l.toArray (0, 0) d hh hu hd (by simpa using hi)
  simp [results, h, hp', hq', asAddr, hrun, Result.andThen]
/-- An error: a code at a place. -/
def Er (w : World) (c at_ : Int) (v : Value) : Prop := ∃ b, v = .iface 54 (.pointer (some ⟨b, 0, none⟩)) ∧ b < w.heap.size ∧ w.cell? ⟨b, 0, none⟩ = some (.int .i64 at_) ∧ w.cell? ⟨b, 1, none⟩ = some (.iface 64 (.int .i64 c))
theorem Er.below {w w' : World} {c p : Int} {v : Value} (h : Er w c p v) (hb : Below w.heap.size w w') : Er w' c p v := by
  obtain ⟨b, e, hl, h1, h2⟩ := h
  exact ⟨b, e, by have := hb.size; omega, (hb.cell (p := ⟨b, 0, none⟩) hl).trans h1, (hb.cell (p := ⟨b, 1, none⟩) hl).trans h2⟩
theorem at_is (n c : Int) (w : World) : Calls Tryz.prog 27 #[.int .i64 n, .iface 64 (.int .i64 c)] w fun e w' => ∃ v, e = .returned v ∧ Er w' c n v ∧ Below w.heap.size w w' := by
  go_enter Tryz.func27, Tryz.ntmps27
  go_wp2
  go_ret
  exact ⟨_, rfl, ⟨w.heap.size, rfl, by simp, by simp, by simp⟩, by go_grown⟩
end Go.Proofs.YtafnipgeeampjaaGreatDoor

/-
  The document's orders as a law's parameters, opened to their cells; rows of orders and of levels as cells.
-/
import Derived.Test.YtafignfoejefjaaRows
import Derived.Test.YtafignfoejefjaaKit
import Derived.Test.YtafignfoejefjaaApp
import Derived.Test.YtafignfoejefjaaQuiet
import Derived.WalkKit
import Derived.ProofKit
import Derived.OpenShut
import Derived.ShutString
import Derived.Below
import Derived.Outline
import Derived.WalkLawsBesides
import Derived.WalkSpells
import Derived.Handy
import Derived.Deep.QuietTactic
import Derived.BigQuiet
import Derived.RegionTactic
import Derived.ChangeAlike
import Derived.Lib.Hide
import Derived.Laws.Rows
import Derived.Laws.Tables
import Derived.Laws.CopyOwn
import Derived.Laws.MakeOwn
import Derived.Laws.Entries
import Derived.Laws.OwnMore
import Derived.Deep.WholeRow
import Derived.Deep.LoopGhost
import Derived.Deep.AppendLies
import Derived.Deep.Draws
import Derived.Maps.AppendAt
import Derived.OwnWalk
import Derived.Deep.RegionHeld3
import Derived.Deep.Cut
import Derived.Deep.CutRange
import Derived.Deep.DeepCutAuto
import Derived.Deep.CutBlock
import Derived.Lib.SliceRun
import Derived.IntWalk
import Derived.OpenShut
import Derived.Deep.Slices
import Derived.Deep.Fields
import Derived.ChangeSame
import Derived.ChangeArms
import Derived.Deep.MidRow
import Derived.Deep.Upon
import Derived.Test.YtafignfoejefjaaBkM
namespace Go.Proofs.Ytafignfoejefjaa
open Go.ChangeShapes Go.WideShapes Go.ChangeAt Go.RowKit
def Bl (B : Nat) (l : List Value) (w : World) : Prop := ∃ t, w.heap[B]? = some (.cells l.toArray t (0, 0))
theorem Bl.lt {B : Nat} {l : List Value} {w : World} (h : Bl B l w) : B < w.heap.size := by
  obtain ⟨t, hh⟩ := h
  exact (Array.getElem?_eq_some_iff.1 hh).1
theorem Bl.cell {B : Nat} {l : List Value} {w : World} (h : Bl B l w) (j : Nat) (u : Value) (hu : l[j]? = some u) : w.cell? ⟨B, j, none⟩ = some u := by
  obtain ⟨t, hh⟩ := h
  rw [cell_of_row _ _ _ _ _ _ hh]; simpa using hu
theorem Bl.frz {B : Nat} {l : List Value} {w : World} (h : Bl B l w) (j : Nat) : w.frozen? ⟨B, j, none⟩ = false := by
  obtain ⟨t, hh⟩ := h
  simp [World.frozen?, hh]
theorem Bl.new (w : World) (cs : List Value) (t : TypeId) : Bl w.heap.size cs (w.alloc (.cells cs.toArray t)) := ⟨t, heap_alloc_new w (.cells cs.toArray t)⟩
theorem Bl.below {B : Nat} {l : List Value} {w w' : World} (h : Bl B l w) (hb : Below w.heap.size w w') : Bl B l w' := by
  have hl := h.lt
  obtain ⟨t, hh⟩ := h
  exact ⟨t, (hb.block B hl).trans hh⟩
theorem Bl.far {B : Nat} {l : List Value} {w : World} (h : Bl B l w) {p : Addr} (hne : p.block ≠ B) (u : Value) : Bl B l (w.setCell p u) := by
  obtain ⟨t, hh⟩ := h
  exact ⟨t, (Below.heap_setCell w p u B (fun e => hne e.symm)).trans hh⟩
theorem Bl.set {B : Nat} {l : List Value} {w : World} (h : Bl B l w) (j : Nat) (u : Value) : Bl B (l.set j u) (w.setCell ⟨B, j, none⟩ u) := by
  obtain ⟨t, hh⟩ := h
  refine ⟨t, ?_⟩
  simp [World.setCell, Array.getElem?_modify, hh]
theorem blk_set {w : World} {g : Nat} {t : TypeId} {cs : Array Value} (h : w.heap[g]? = some (.cells cs t (0, 0))) (i : Nat) (u : Value) : (w.setCell ⟨g, i, none⟩ u).heap[g]? = some (.cells (cs.setIfInBounds i u) t (0, 0)) := by
  simp [World.setCell, Array.getElem?_modify, h]
theorem blk_far {w : World} {g : Nat} {o : Obj} (h : w.heap[g]? = some o) {p : Addr} (hp : g ≠ p.block) (u : Value) : (w.setCell p u).heap[g]? = some o := (Below.heap_setCell w p u g hp).trans h
theorem blk_frozen {w : World} {g : Nat} {t : TypeId} {cs : Array Value} (h : w.heap[g]? = some (.cells cs t (0, 0))) (i : Nat) : w.frozen? ⟨g, i, none⟩ = false := by
  simp [World.frozen?, h]
theorem blk_lt {w : World} {g : Nat} {o : Obj} (h : w.heap[g]? = some o) : g < w.heap.size := by
  rcases Nat.lt_or_ge g w.heap.size with hlt | hge
  · exact hlt
  · rw [Array.getElem?_eq_none hge] at h; cases h

theorem oshape {w : World} {base : Nat} {e : TypeId} {size : Nat} {v : Value} {n : Nat} {xs : List Value} (h : w.ownsRow base e size v n xs) : ∃ A c, v = .slice A n c := by
  rcases h.2 with ⟨rfl, rfl⟩ | ⟨g, cap, cur, hv, _⟩
  · exact ⟨_, _, rfl⟩
  · exact ⟨_, _, hv⟩
theorem rkept {w wx : World} {base : Nat} {e : TypeId} {size m : Nat} {v : Value} {xs : List Value} (h : w.ownsRow base e size v m xs) (hb : Below w.heap.size w wx) : wx.ownsRow base e size v m xs := by
  refine ⟨h.1, ?_⟩
  rcases h.2 with h0 | ⟨g, cap, cur, hv, hg, hgh, hr⟩
  · exact .inl h0
  · have hlt : g < w.heap.size := by
      rcases Nat.lt_or_ge g w.heap.size with hlt | hge
      · exact hlt
      · rw [Array.getElem?_eq_none hge] at hgh; cases hgh
    exact .inr ⟨g, cap, cur, hv, hg, (hb.block g hlt).trans hgh, hr⟩

theorem rfar {wr w' : World} {base : Nat} {e : TypeId} {size m : Nat} {u : Value} {xs : List Value} (h : wr.ownsRow base e size u m xs) (hk : ∀ k, base ≤ k → k < wr.heap.size → w'.heap[k]? = wr.heap[k]?) : w'.ownsRow base e size u m xs := by
  refine ⟨h.1, ?_⟩
  rcases h.2 with h0 | ⟨g, cap, cur, hv, hg, hgh, hr⟩
  · exact .inl h0
  · have hlt : g < wr.heap.size := by
      rcases Nat.lt_or_ge g wr.heap.size with hlt | hge
      · exact hlt
      · rw [Array.getElem?_eq_none hge] at hgh; cases hgh
    exact .inr ⟨g, cap, cur, hv, hg, (hk g hg hlt).trans hgh, hr⟩
theorem reads_newN (w : World) (n s : Nat) (l : List Value) (t : TypeId) (hl : l.length = n * s) : Reads (w.alloc (.cells l.toArray t)) (w.heap.size + 1) s (some ⟨w.heap.size, 0, none⟩) n l := by
  refine ⟨hl, fun _ => ⟨_, rfl, by show w.heap.size < w.heap.size + 1; omega, fun j u hu => ?_⟩⟩
  have hg := heap_alloc_new w (.cells l.toArray t)
  unfold Addr.add
  by_cases h0 : j = 0
  · subst h0
    simp only [if_true]
    rw [cell_of_row _ _ _ _ _ _ hg]
    simpa using hu
  · simp only [h0, if_false, Nat.zero_add]
    rw [cell_of_row _ _ _ _ _ _ hg]
    simpa using hu
theorem addp (a : Addr) (i : Nat) (hi : i ≠ 0) (h : a.spot = none) : a.add i = ⟨a.block, a.off + i, none⟩ := by
  unfold Addr.add
  rw [if_neg hi]
theorem setCells_row (t : TypeId) (B : Nat) : ∀ (vs pre cs0 : List Value) (w : World), w.heap[B]? = some (.cells (pre ++ cs0).toArray t (0, 0)) → vs.length = cs0.length → (w.setCells B pre.length vs).heap[B]? = some (.cells (pre ++ vs).toArray t (0, 0))
  | [], pre, cs0, w, h, hl => by
    have : cs0 = [] := List.length_eq_zero_iff.1 hl.symm
    subst this
    exact h
  | v :: r, pre, cs0, w, h, hl => by
    obtain ⟨c, cs', rfl⟩ : ∃ c cs', cs0 = c :: cs' := List.exists_cons_of_ne_nil (by intro e; rw [e] at hl; cases hl)
    have h1 := blk_set h pre.length v
    have h2 : (pre ++ c :: cs').toArray.setIfInBounds pre.length v = ((pre ++ [v]) ++ cs').toArray := by
      rw [List.setIfInBounds_toArray, List.set_append_right _ _ (Nat.le_refl _), Nat.sub_self, List.set_cons_zero, List.append_assoc]
      rfl
    rw [h2] at h1
    have h3 := setCells_row t B r (pre ++ [v]) cs' _ h1 (by simpa using hl)
    rw [List.length_append] at h3
    rw [show pre ++ v :: r = pre ++ [v] ++ r from by rw [List.append_assoc]; rfl]
    exact h3
theorem there_row {B : Nat} {cs : Array Value} {t : TypeId} {w : World} (h : w.heap[B]? = some (.cells cs t (0, 0))) : w.there B 0 cs.size := fun j hj => by
  rw [Nat.zero_add]
  refine ⟨?_, blk_frozen h j⟩
  rw [cell_of_row _ _ _ _ _ _ h, Array.getElem?_eq_getElem hj]
  rfl
theorem setCells_below {b B : Nat} {a w : World} (h : Below b a w) (hB : b ≤ B) : ∀ (vs : List Value) (o : Nat), Below b a (w.setCells B o vs)
  | [], _ => h
  | v :: r, o => setCells_below (h.setCell (p := ⟨B, o, none⟩) hB v) hB r (o + 1)
theorem setCells_size (B : Nat) : ∀ (vs : List Value) (o : Nat) (w : World), (w.setCells B o vs).heap.size = w.heap.size
  | [], _, _ => rfl
  | v :: r, o, w => by rw [World.setCells, setCells_size B r (o + 1)]; simp
/-- A whole struct stored over a block that is known whole. -/
theorem wp_store_bl {P : Program} {op : Oper} {a : Act} {w : World} {K : Act → World → Prop} {Q : Exit → Act → World → Prop} (ty : TypeId) (x y : Operand) (ho : op.op = .store ty x y)
    (b : Nat) (l cells : List Value) (hx : a.eval x = .pointer (some ⟨b, 0, none⟩)) (hy : a.eval y = .agg cells.toArray) (hb : Bl b l w) (hn : cells.length = l.length)
    (hi : (P.info? ty).map (·.size) = some cells.length) (h1 : cells.all (·.oneCell') = true)
    (h : ∀ w1, Bl b cells w1 → (∀ k, k ≠ b → k < w.heap.size → w1.heap[k]? = w.heap[k]?) → w1.heap.size = w.heap.size → (∀ (base : Nat) (w0 : World), base ≤ b → Below base w0 w → Below base w0 w1) → K (a.put op.dst undef) w1) : op.wp P a w K Q := by
  have hl := hb.lt
  obtain ⟨t, hh⟩ := hb
  have ht : w.there b 0 cells.toArray.size := by
    have := there_row hh
    simpa [hn] using this
  refine wp_store_mid ty x y ho b 0 cells.toArray hx hy ht (by simpa using hi) (by simpa using h1) (h _ ⟨t, ?_⟩ (fun k hk hlt => ?_) (setCells_size _ _ _ _) (fun base w0 hb hw => setCells_below hw hb _ _))
  · have := setCells_row t b cells [] l w (by simpa using hh) hn
    simpa using this
  · exact World.heap_setCells_other w b 0 _ hlt hk
theorem wpList_store_bl {P : Program} {ops : Array Oper} {rest : List Oper} {op : Oper} {a : Act} {w : World} {Q : Exit → Act → World → Prop} (hgd : op.guard = none) (ty : TypeId) (x y : Operand) (ho : op.op = .store ty x y)
    (b : Nat) (l cells : List Value) (hx : a.eval x = .pointer (some ⟨b, 0, none⟩)) (hy : a.eval y = .agg cells.toArray) (hb : Bl b l w) (hn : cells.length = l.length)
    (hi : (P.info? ty).map (·.size) = some cells.length) (h1 : cells.all (·.oneCell') = true)
    (h : ∀ w1, Bl b cells w1 → (∀ k, k ≠ b → k < w.heap.size → w1.heap[k]? = w.heap[k]?) → w1.heap.size = w.heap.size → (∀ (base : Nat) (w0 : World), base ≤ b → Below base w0 w → Below base w0 w1) → wpList P ops Q rest (a.put op.dst undef) w1) : wpList P ops Q (op :: rest) a w :=
  wpList_plain hgd fun _ hK => wp_store_bl ty x y ho b l cells hx hy hb hn hi h1 fun w1 a1 a2 a3 a4 => hK _ _ (h w1 a1 a2 a3 a4)
theorem results_bl {P : Program} {fn : Func} {p : Tmp} {ty : TypeId} (h : fn.results = #[.cell p ty]) (tmps : Array Value) (w : World) (g : Nat) (l : List Value) (d : TypeDesc)
    (hp : tmps.getD p undef = .pointer (some ⟨g, 0, none⟩)) (hg : Bl g l w)
    (hu : P.underlying ty = some d) (hd : (match d with | .struct _ | .array _ _ => true | _ => false) = true) (hi : (P.info? ty).map (·.size) = some l.length) :
    (results fn tmps).run P w = .ok (.agg l.toArray) w := by
  obtain ⟨t, hh⟩ := hg
  exact results_cell_row h tmps w g t l.toArray (0, 0) d hp hh hu hd (by simpa using hi)
def oc (o : Ord) : List Value := [.int .i64 o.c, .int .i64 o.n, .int .i64 o.s, .int .i64 o.p, .int .i64 o.l, .int .i64 o.u, .int .i64 o.q]
def ov (os : List Ord) : List Value := (os.map oc).flatten
def vc (x : Lvl) : List Value := [.int .i64 x.p, .int .i64 x.q, .int .i64 x.k]
def vv (ls : List Lvl) : List Value := (ls.map vc).flatten
section
theorem flat_len {α : Type} (f : α → List Value) (m : Nat) (hf : ∀ x, (f x).length = m) : ∀ l : List α, ((l.map f).flatten).length = l.length * m
  | [] => by simp
  | x :: t => by simp only [List.map_cons, List.flatten_cons, List.length_append, List.length_cons, hf, flat_len f m hf t, Nat.add_mul]; omega
theorem flat_get {α : Type} (f : α → List Value) (m : Nat) (hf : ∀ x, (f x).length = m) : ∀ (l : List α) (k j : Nat) (x : α), l[k]? = some x → j < m → ((l.map f).flatten)[k * m + j]? = (f x)[j]?
  | [], k, j, x, h, _ => by simp at h
  | y :: t, 0, j, x, h, hj => by
    simp at h; subst h
    simp only [List.map_cons, List.flatten_cons, Nat.zero_mul, Nat.zero_add]
    rw [List.getElem?_append_left (by rw [hf]; exact hj)]
  | y :: t, k + 1, j, x, h, hj => by
    simp at h
    simp only [List.map_cons, List.flatten_cons]
    rw [List.getElem?_append_right (by rw [hf, Nat.add_mul]; omega), hf, show (k + 1) * m + j - m = k * m + j from by rw [Nat.add_mul]; omega]
    exact flat_get f m hf t k j x h hj
end
theorem oc_len (o : Ord) : (oc o).length = 7 := rfl
theorem vc_len (x : Lvl) : (vc x).length = 3 := rfl
theorem ov_len (os : List Ord) : (ov os).length = os.length * 7 := flat_len oc 7 oc_len os
theorem vv_len (ls : List Lvl) : (vv ls).length = ls.length * 3 := flat_len vc 3 vc_len ls
theorem ov_get (os : List Ord) (k j : Nat) (o : Ord) (h : os[k]? = some o) (hj : j < 7) : (ov os)[k * 7 + j]? = (oc o)[j]? := flat_get oc 7 oc_len os k j o h hj
theorem vv_get (ls : List Lvl) (k j : Nat) (x : Lvl) (h : ls[k]? = some x) (hj : j < 3) : (vv ls)[k * 3 + j]? = (vc x)[j]? := flat_get vc 3 vc_len ls k j x h hj
theorem ov_snoc (os : List Ord) (o : Ord) : ov (os ++ [o]) = ov os ++ oc o := by unfold ov; simp
theorem vv_snoc (ls : List Lvl) (x : Lvl) : vv (ls ++ [x]) = vv ls ++ vc x := by unfold vv; simp
theorem oc_one (o : Ord) : ∀ u ∈ oc o, u.oneCell' = true := by
  intro u hu
  simp only [oc, List.mem_cons, List.not_mem_nil, or_false] at hu
  rcases hu with h | h | h | h | h | h | h <;> (subst h; rfl)
theorem vc_one (o : Lvl) : ∀ u ∈ vc o, u.oneCell' = true := by
  intro u hu
  simp only [vc, List.mem_cons, List.not_mem_nil, or_false] at hu
  rcases hu with h | h | h <;> (subst h; rfl)
theorem ov_one (os : List Ord) : ∀ u ∈ ov os, u.oneCell' = true := by
  intro u hu
  unfold ov at hu
  obtain ⟨l, hl, h2⟩ := List.mem_flatten.1 hu
  obtain ⟨o, _, rfl⟩ := List.mem_map.1 hl
  exact oc_one o u h2
theorem orow_cell {w : World} {base g n c k j : Nat} {l : List Ord} {x : Ord} (h : w.ownsRow base 55 7 (.slice (some ⟨g, 0, none⟩) n c) n (ov l)) (hx : l[k]? = some x) (hn : n = l.length) (hj : j < 7) {u : Value} (hu : (oc x)[j]? = some u) : w.cell? ⟨g, k * 7 + j, none⟩ = some u := by
  have hk := (List.getElem?_eq_some_iff.1 hx).1
  exact (World.ownsRow.cellAt h (k * 7 + j) (by omega)).trans ((ov_get l k j x hx hj).trans hu)
theorem vrow_cell {w : World} {base g n c k j : Nat} {l : List Lvl} {x : Lvl} (h : w.ownsRow base 39 3 (.slice (some ⟨g, 0, none⟩) n c) n (vv l)) (hx : l[k]? = some x) (hn : n = l.length) (hj : j < 3) {u : Value} (hu : (vc x)[j]? = some u) : w.cell? ⟨g, k * 3 + j, none⟩ = some u := by
  have hk := (List.getElem?_eq_some_iff.1 hx).1
  exact (World.ownsRow.cellAt h (k * 3 + j) (by omega)).trans ((vv_get l k j x hx hj).trans hu)
theorem own_some {w : World} {base : Nat} {e : TypeId} {size : Nat} {v : Value} {n : Nat} {xs : List Value} (h : w.ownsRow base e size v n xs) (hn : 0 < n) : ∃ g c, v = .slice (some ⟨g, 0, none⟩) n c ∧ base ≤ g ∧ g < w.heap.size := by
  rcases h.2 with ⟨_, h0⟩ | ⟨g, cap, cur, hv, hg, hgh, _⟩
  · omega
  · exact ⟨g, _, hv, hg, blk_lt hgh⟩
theorem own_base {w : World} {base base' : Nat} {e : TypeId} {size : Nat} {v : Value} {n : Nat} {xs : List Value} (h : w.ownsRow base e size v n xs) (hb : base' ≤ base) : w.ownsRow base' e size v n xs := by
  refine ⟨h.1, ?_⟩
  rcases h.2 with h0 | ⟨g, cap, cur, hv, hg, hr⟩
  · exact .inl h0
  · exact .inr ⟨g, cap, cur, hv, Nat.le_trans hb hg, hr⟩
section
open Go.Deep
/-- A row of orders that can be read, wherever. -/
def OrdsAt (A : Option Addr) (len : Nat) (g : Nat → Ord) (w : World) : Prop := 0 < len → ∃ ad, A = some ad ∧ ad.block < w.heap.size ∧ ∀ i, i < len → ∀ (j : Nat) (u : Value), (oc (g i))[j]? = some u → w.cell? (ad.add (i * 7 + j)) = some u
theorem OrdsAt.below {A : Option Addr} {len : Nat} {g : Nat → Ord} {w w' : World} (h : OrdsAt A len g w) (hb : Below w.heap.size w w') : OrdsAt A len g w' := fun h0 => by
  obtain ⟨ad, e, hl, hc⟩ := h h0
  refine ⟨ad, e, by have := hb.size; omega, fun i hi j u hu => ?_⟩
  have hlt : (ad.add (i * 7 + j)).block < w.heap.size := by rw [block_of_add]; exact hl
  rw [hb.cell hlt]
  exact hc i hi j u hu
theorem cellsO : Try.prog.cellsOf 50 = 7 := by kernel_rfl
theorem cellsT : Try.prog.cellsOf 48 = 5 := by kernel_rfl
theorem cells3 : Try.prog.cellsOf 3 = 1 := by kernel_rfl
theorem cell_lt {w : World} {a : Addr} {v : Value} (h : w.cell? a = some v) : a.block < w.heap.size := by
  rcases Nat.lt_or_ge a.block w.heap.size with hlt | hge
  · exact hlt
  · have e : w.heap[a.block]? = none := Array.getElem?_eq_none hge
    simp [World.cell?, e] at h
section
variable {H : Type} {enc : TypeId × Value → H} {w : World} {base : Nat} {spare : Nat → Bool} {held : Bool}
theorem get_some {α : Type} {xs : List α} {i : Nat} (h : i < xs.length) : xs[i]? = some (xs[i]'h) := List.getElem?_eq_getElem h
set_option maxRecDepth 100000 in
set_option maxHeartbeats 4000000 in
theorem ord_of {fuel : Nat} {cs : List Value} {x : DataW H × List MemPlace} (h : DataW.trod enc Try.prog w base spare held fuel 50 cs = some x) : ∃ e : Ord, cs = oc e := by
  obtain ⟨xs, n, _, _, hl, hxl, hf⟩ := DataW.trod_struct Try.underlying50 h
  rw [cellsO] at hl
  obtain ⟨c0, c1, c2, c3, c4, c5, c6, rfl⟩ := list7 hl
  have hx : xs.length = 3 := hxl
  have f0 := (hf 0 _ rfl).trans (get_some (show 0 < xs.length from by omega))
  change DataW.trod enc Try.prog w base spare held n 3 (List.take (Try.prog.cellsOf 3) (List.drop 0 [c0, c1, c2, c3, c4, c5, c6])) = _ at f0
  simp only [cells3, List.drop, List.take] at f0
  have f1 := (hf 1 _ rfl).trans (get_some (show 1 < xs.length from by omega))
  change DataW.trod enc Try.prog w base spare held n 48 (List.take (Try.prog.cellsOf 48) (List.drop 1 [c0, c1, c2, c3, c4, c5, c6])) = _ at f1
  simp only [cellsT, List.drop, List.take] at f1
  have f2 := (hf 2 _ rfl).trans (get_some (show 2 < xs.length from by omega))
  change DataW.trod enc Try.prog w base spare held n 3 (List.take (Try.prog.cellsOf 3) (List.drop 6 [c0, c1, c2, c3, c4, c5, c6])) = _ at f2
  simp only [cells3, List.drop, List.take] at f2
  obtain ⟨ys, m, _, _, hl5, hyl, hg⟩ := DataW.trod_struct Try.underlying48 f1
  have hy : ys.length = 5 := hyl
  have g0 := (hg 0 _ rfl).trans (get_some (show 0 < ys.length from by omega))
  change DataW.trod enc Try.prog w base spare held m 3 (List.take (Try.prog.cellsOf 3) (List.drop 0 [c1, c2, c3, c4, c5])) = _ at g0
  simp only [cells3, List.drop, List.take] at g0
  have g1 := (hg 1 _ rfl).trans (get_some (show 1 < ys.length from by omega))
  change DataW.trod enc Try.prog w base spare held m 3 (List.take (Try.prog.cellsOf 3) (List.drop 1 [c1, c2, c3, c4, c5])) = _ at g1
  simp only [cells3, List.drop, List.take] at g1
  have g2 := (hg 2 _ rfl).trans (get_some (show 2 < ys.length from by omega))
  change DataW.trod enc Try.prog w base spare held m 3 (List.take (Try.prog.cellsOf 3) (List.drop 2 [c1, c2, c3, c4, c5])) = _ at g2
  simp only [cells3, List.drop, List.take] at g2
  have g3 := (hg 3 _ rfl).trans (get_some (show 3 < ys.length from by omega))
  change DataW.trod enc Try.prog w base spare held m 3 (List.take (Try.prog.cellsOf 3) (List.drop 3 [c1, c2, c3, c4, c5])) = _ at g3
  simp only [cells3, List.drop, List.take] at g3
  have g4 := (hg 4 _ rfl).trans (get_some (show 4 < ys.length from by omega))
  change DataW.trod enc Try.prog w base spare held m 3 (List.take (Try.prog.cellsOf 3) (List.drop 4 [c1, c2, c3, c4, c5])) = _ at g4
  simp only [cells3, List.drop, List.take] at g4
  obtain ⟨z0, rfl, _⟩ := field_int Try.underlying3 ⟨_, _, f0⟩
  obtain ⟨z6, rfl, _⟩ := field_int Try.underlying3 ⟨_, _, f2⟩
  obtain ⟨z1, rfl, _⟩ := field_int Try.underlying3 ⟨_, _, g0⟩
  obtain ⟨z2, rfl, _⟩ := field_int Try.underlying3 ⟨_, _, g1⟩
  obtain ⟨z3, rfl, _⟩ := field_int Try.underlying3 ⟨_, _, g2⟩
  obtain ⟨z4, rfl, _⟩ := field_int Try.underlying3 ⟨_, _, g3⟩
  obtain ⟨z5, rfl, _⟩ := field_int Try.underlying3 ⟨_, _, g4⟩
  exact ⟨⟨z0, z1, z2, z3, z4, z5, z6⟩, rfl⟩
set_option maxRecDepth 100000 in
theorem open_ord {r : Reach} {b0 : Nat} {v : Value} {d : DataW H} {p : List MemPlace}
    (hv : Value.okWide Try.prog w r b0 50 v) (h : DataW.Trod enc Try.prog w base spare held 50 v d p) :
    ∃ e : Ord, v = .agg #[.int .i64 e.c, .int .i64 e.n, .int .i64 e.s, .int .i64 e.p, .int .i64 e.l, .int .i64 e.u, .int .i64 e.q] := by
  obtain ⟨cs, rfl, _⟩ := okWide_struct Try.underlying50 hv
  obtain ⟨fuel, hf⟩ := h
  obtain ⟨e, he⟩ := ord_of hf
  refine ⟨e, ?_⟩
  obtain ⟨l⟩ := cs
  simp only [Value.cells] at he
  subst he
  rfl
set_option maxRecDepth 100000 in
theorem open_ords {r : Reach} {b0 : Nat} {v : Value} {d : DataW H} {p : List MemPlace}
    (hv : Value.okWide Try.prog w r b0 24 v) (h : DataW.Trod enc Try.prog w base (fun _ => true) held 24 v d p) :
    ∃ (a : Option Addr) (len cap : Nat) (g : Nat → Ord), v = .slice a len cap ∧ OrdsAt a len g w := by
  obtain ⟨a, len, cap, rfl⟩ := okWide_slice Try.underlying24 hv
  obtain ⟨fuel, hf⟩ := h
  rcases open_slice Try.underlying24 hf with ⟨hcs, _⟩ | ⟨x, l, c, m, n, D, Pl, hcs, _, hl, hm, hmm, _, hi⟩
  · simp [Value.cells] at hcs
    obtain ⟨rfl, rfl, rfl⟩ := hcs
    exact ⟨_, _, _, fun _ => default, rfl, fun h => absurd h (by omega)⟩
  · simp [Value.cells] at hcs
    obtain ⟨rfl, rfl, rfl⟩ := hcs
    have hmc : m = cap := by rw [hmm]; exact if_pos rfl
    have key : ∀ i, i < len → ∃ e : Ord, ∀ (j : Nat) (u : Value), (oc e)[j]? = some u → w.cell? (x.add (i * 7 + j)) = some u := by
      intro i hil
      obtain ⟨cs', hc, ht'⟩ := hi i (by omega)
      rw [cellsO] at hc
      obtain ⟨e, rfl⟩ := ord_of ht'
      obtain ⟨_, hcl, hat⟩ := World.cells?_some hc
      refine ⟨e, fun j u hu => ?_⟩
      have hj : j < 7 := by
        have := (List.getElem?_eq_some_iff.1 hu).1
        exact this
      rw [← Go.Deep.add_add, hat j hj]
      exact hu
    refine ⟨some x, len, cap, fun i => if hil : i < len then Classical.choose (key i hil) else default, rfl, fun h0 => ⟨x, rfl, ?_, fun i hil => ?_⟩⟩
    · obtain ⟨e, hc⟩ := key 0 h0
      have := cell_lt (hc 0 _ rfl)
      rw [block_of_add] at this
      exact this
    · simp only [dif_pos hil]
      exact Classical.choose_spec (key i hil)
end
end
/-- The orders of a row, as a list. -/
def lst (len : Nat) (g : Nat → Ord) : List Ord := (List.range len).map g
theorem lst_len (len : Nat) (g : Nat → Ord) : (lst len g).length = len := by simp [lst]
theorem lst_get (len : Nat) (g : Nat → Ord) (k : Nat) (hk : k < len) : (lst len g)[k]? = some (g k) := by simp [lst, hk]
theorem lst_succ (k : Nat) (g : Nat → Ord) : lst (k + 1) g = lst k g ++ [g k] := by simp [lst, List.range_succ]
theorem lst_take (len : Nat) (g : Nat → Ord) (k : Nat) (hk : k ≤ len) : (lst len g).take k = lst k g := by simp [lst, ← List.map_take, List.take_range, Nat.min_eq_left hk]
end Go.Proofs.Ytafignfoejefjaa

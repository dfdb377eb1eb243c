/-
  RecordReads: the reader's state in memory, kept and changed; what Next answers of it.
-/
import Derived.Test.YtdjdpbgemdmpiaaRows
import Derived.WalkKit
import Derived.ProofKit
import Derived.OpenShut
import Derived.ShutString
import Derived.Below
import Derived.Outline
import Derived.WalkLawsBesides
import Derived.WalkSpells
import Derived.Handy
import Derived.Lib.Hide
import Derived.Test.YtdjdpbgemdmpiaaKit
import Derived.Test.YtdjdpbgemdmpiaaApp
import Derived.Test.YtdjdpbgemdmpiaaRec
import Derived.Test.YtdjdpbgemdmpiaaReadsG
import Derived.Test.YtdjdpbgemdmpiaaReadsC
namespace Go.Proofs.Ytdjdpbgemdmpiaa
open Go.ChangeShapes Go.WideShapes Go.ChangeAt Go.RowKit
namespace Reads8
def strip (gv : Nat → Nat → Int) (k : Nat) : List Value := [.int .i64 (gv k 0), .int .i64 (gv k 1), .int .i64 (gv k 2), .int .i64 (gv k 3), .int .i64 0, .int .i64 0]
def told (gv : Nat → Nat → Int) (n : Nat) (r : Rd) : List Value := (List.range r.N).flatMap (strip gv) ++ (if r.G then strip gv n else [])
def count (r : Rd) : Nat := r.N + (if r.G then 1 else 0)
def gen (r : Rd) : Int := if r.G then 2 else 1
def num (r : Rd) : Int := if r.G then 0 else r.N
/-- The reader's state: slots, full, the cursor, what was told. -/
structure RQ (w0 w : World) (n cb : Nat) (gv : Nat → Nat → Int) (S : Nat → Bool) (g k : Int) (m : Nat) (xs : List Value) (v : Value) : Prop where
  s : Grid w0.heap.size (n + 1) (fun k j => if S k then gv k j else 0) w
  f : Grid (w0.heap.size + 1) (n + 1) gv w
  c0 : w.cell? ⟨cb, 0, none⟩ = some (.int .i64 g)
  c1 : w.cell? ⟨cb, 1, none⟩ = some (.int .i64 k)
  f0 : w.frozen? ⟨cb, 0, none⟩ = false
  f1 : w.frozen? ⟨cb, 1, none⟩ = false
  cl : cb < w.heap.size
  cw : w0.heap.size + 1 < cb
  o : w.ownsRow (cb + 1) 78 6 v m xs
  b : Below w0.heap.size w0 w
def RW (w0 w : World) (n cb : Nat) (gv : Nat → Nat → Int) (r : Rd) (v : Value) : Prop := RQ w0 w n cb gv r.S (gen r) (num r) (count r) (told gv n r) v
theorem Grid.congr {B F : Nat} {v v' : Nat → Nat → Int} {w : World} (h : Grid B F v w) (e : ∀ k j, v k j = v' k j) : Grid B F v' w := ⟨fun k j hk hj => by rw [← e]; exact h.c k j hk hj, h.f, h.l⟩
theorem Grid.via {B F : Nat} {v : Nat → Nat → Int} {w wx : World} (h : Grid B F v w) (hB : wx.heap[B]? = w.heap[B]?) (hs : w.heap.size ≤ wx.heap.size) : Grid B F v wx :=
  ⟨fun k j hk hj => (World.cell?_of_block (w := w) (a := ⟨B, k * 6 + j, none⟩) hB).trans (h.c k j hk hj), fun o ho => (World.frozen?_of_block (w := w) (a := ⟨B, o, none⟩) hB).trans (h.f o ho), Nat.lt_of_lt_of_le h.l hs⟩
theorem row_via {w wx : World} {base : Nat} {e : TypeId} {size m : Nat} {v : Value} {xs : List Value} (h : w.ownsRow base e size v m xs) (hk : ∀ b, b < w.heap.size → base ≤ b → wx.heap[b]? = w.heap[b]?) : wx.ownsRow base e size v m xs := by
  refine ⟨h.1, ?_⟩
  rcases h.2 with h0 | ⟨g, cap, cur, hv, hg, hgh, hr⟩
  · exact .inl h0
  · have hlt : g < w.heap.size := by
      rcases Nat.lt_or_ge g w.heap.size with hlt | hge
      · exact hlt
      · rw [Array.getElem?_eq_none hge] at hgh; cases hgh
    exact .inr ⟨g, cap, cur, hv, hg, (hk g hlt hg).trans hgh, hr⟩
section
variable {w0 w wx : World} {n cb : Nat} {gv : Nat → Nat → Int} {S : Nat → Bool} {g k g' k' : Int} {m : Nat} {xs : List Value} {v : Value}
theorem RQ.via (h : RQ w0 w n cb gv S g k m xs v) (hk : ∀ b, b < w.heap.size → b ≠ cb → wx.heap[b]? = w.heap[b]?) (hs : w.heap.size ≤ wx.heap.size) (hb : Below w0.heap.size w0 wx)
    (c0 : wx.cell? ⟨cb, 0, none⟩ = some (.int .i64 g')) (c1 : wx.cell? ⟨cb, 1, none⟩ = some (.int .i64 k')) (f0 : wx.frozen? ⟨cb, 0, none⟩ = false) (f1 : wx.frozen? ⟨cb, 1, none⟩ = false) : RQ w0 wx n cb gv S g' k' m xs v :=
  ⟨h.s.via (hk _ h.s.l (by have := h.cw; omega)) hs, h.f.via (hk _ h.f.l (by have := h.cw; omega)) hs, c0, c1, f0, f1, Nat.lt_of_lt_of_le h.cl hs, h.cw, row_via h.o fun b hb hc => hk b hb (by omega), hb⟩
theorem RQ.below (h : RQ w0 w n cb gv S g k m xs v) (hb : Below w.heap.size w wx) : RQ w0 wx n cb gv S g k m xs v :=
  h.via (fun b hl _ => hb.block b hl) hb.size (Below.step h.b hb) ((hb.cell (p := ⟨cb, 0, none⟩) h.cl).trans h.c0) ((hb.cell (p := ⟨cb, 1, none⟩) h.cl).trans h.c1) ((hb.frozen (p := ⟨cb, 0, none⟩) h.cl).trans h.f0) ((hb.frozen (p := ⟨cb, 1, none⟩) h.cl).trans h.f1)
theorem RQ.grown (h : RQ w0 w n cb gv S g k m xs v) {row : Option Nat} (hg : w.grownBy wx row) (hr : ∀ b, row = some b → cb + 1 ≤ b) {m' : Nat} {xs' : List Value} {v' : Value} (ho : wx.ownsRow (cb + 1) 78 6 v' m' xs') : RQ w0 wx n cb gv S g k m' xs' v' := by
  have hk : ∀ b, b < w.heap.size → b ≤ cb → wx.heap[b]? = w.heap[b]? := fun b hl hc => hg.block b hl fun e => by have := hr b e.symm; omega
  have hcw := h.cw
  exact ⟨h.s.via (hk _ h.s.l (by omega)) hg.size, h.f.via (hk _ h.f.l (by omega)) hg.size, (World.cell?_of_block (w := w) (a := ⟨cb, 0, none⟩) (hk cb h.cl (Nat.le_refl _))).trans h.c0, (World.cell?_of_block (w := w) (a := ⟨cb, 1, none⟩) (hk cb h.cl (Nat.le_refl _))).trans h.c1, (World.frozen?_of_block (w := w) (a := ⟨cb, 0, none⟩) (hk cb h.cl (Nat.le_refl _))).trans h.f0, (World.frozen?_of_block (w := w) (a := ⟨cb, 1, none⟩) (hk cb h.cl (Nat.le_refl _))).trans h.f1, Nat.lt_of_lt_of_le h.cl hg.size, hcw, ho,
    Below.grown h.b hg (Below.size h.b) fun b e => by have := hr b e; omega⟩
theorem RQ.fill {kk : Nat} (h : RQ w0 w n cb gv S g k m xs v) (hk : kk < n + 1) : RQ w0 (six w w0.heap.size kk (gv kk)) n cb gv (fun j => if j = kk then true else S j) g k m xs v := by
  have hcw := h.cw
  have hh : ∀ b, b ≠ w0.heap.size → (six w w0.heap.size kk (gv kk)).heap[b]? = w.heap[b]? := fun b hb => six_heap w w0.heap.size kk b (gv kk) hb
  refine ⟨(h.s.put hk).congr fun k j => ?_, h.f.other (by omega), (World.cell?_of_block (w := w) (a := ⟨cb, 0, none⟩) (hh cb (by omega))).trans h.c0, (World.cell?_of_block (w := w) (a := ⟨cb, 1, none⟩) (hh cb (by omega))).trans h.c1, (World.frozen?_of_block (w := w) (a := ⟨cb, 0, none⟩) (hh cb (by omega))).trans h.f0, (World.frozen?_of_block (w := w) (a := ⟨cb, 1, none⟩) (hh cb (by omega))).trans h.f1, by rw [six_size]; exact h.cl, hcw, row_via h.o fun b _ hc => hh b (by omega), six_below h.b (Nat.le_refl _)⟩
  show (if k = kk then gv kk j else if S k then gv k j else 0) = if (if k = kk then true else S k) = true then gv k j else 0
  by_cases hkk : k = kk
  · subst hkk
    rw [if_pos rfl, if_pos (by rw [if_pos rfl])]
  · rw [if_neg hkk, if_neg hkk]
end
/-- a store of two cells into the cursor, after the answer's six, in either order -/
def two (w : World) (cb : Nat) (g k : Int) : World := (w.setCell ⟨cb, 0, none⟩ (.int .i64 g)).setCell ⟨cb, 1, none⟩ (.int .i64 k)
theorem two_heap (w : World) (cb b : Nat) (g k : Int) (h : b ≠ cb) : (two w cb g k).heap[b]? = w.heap[b]? := by
  unfold two
  rw [Below.heap_setCell _ _ _ _ (show b ≠ cb from h), Below.heap_setCell _ _ _ _ (show b ≠ cb from h)]
theorem two_size (w : World) (cb : Nat) (g k : Int) : (two w cb g k).heap.size = w.heap.size := by
  unfold two
  simp only [World.size_setCell]
theorem two_c {w : World} {cb : Nat} {x y : Value} (g k : Int) (h0 : w.cell? ⟨cb, 0, none⟩ = some x) (h1 : w.cell? ⟨cb, 1, none⟩ = some y) : (two w cb g k).cell? ⟨cb, 0, none⟩ = some (.int .i64 g) ∧ (two w cb g k).cell? ⟨cb, 1, none⟩ = some (.int .i64 k) := by
  unfold two
  constructor
  · rw [World.cell?_setCell_other _ _ _ _ (ne_off (by omega))]
    exact World.cell?_setCell_same _ _ _ h0
  · refine World.cell?_setCell_same _ _ _ (?_ : _ = some y)
    rw [World.cell?_setCell_other _ _ _ _ (ne_off (by omega))]
    exact h1
theorem two_f (w : World) (cb : Nat) (g k : Int) (a : Addr) : (two w cb g k).frozen? a = w.frozen? a := by
  unfold two
  simp only [fz8]
theorem six_f (w : World) (B k : Nat) (u : Nat → Int) (a : Addr) : (six w B k u).frozen? a = w.frozen? a := by
  unfold six
  simp only [fz8]
/-- Behind Next: the cursor is another one, the rest is as it was; the answer lies in block R. -/
theorem RQ.next {w0 w w2 : World} {n cb R : Nat} {gv : Nat → Nat → Int} {S : Nat → Bool} {g k g' k' : Int} {m : Nat} {xs : List Value} {v : Value} (h : RQ w0 w n cb gv S g k m xs v) (hb : Below w.heap.size w w2) (hR : w.heap.size ≤ R) (u : Nat → Int) :
    RQ w0 (two (six w2 R 0 u) cb g' k') n cb gv S g' k' m xs v ∧ RQ w0 (six (two w2 cb g' k') R 0 u) n cb gv S g' k' m xs v := by
  have hcl := h.cl
  have hcw := h.cw
  have h2 := h.below hb
  have hs := hb.size
  have a0 : (six w2 R 0 u).cell? ⟨cb, 0, none⟩ = some (.int .i64 g) := (World.cell?_of_block (w := w2) (a := ⟨cb, 0, none⟩) (six_heap w2 R 0 cb u (by omega))).trans h2.c0
  have a1 : (six w2 R 0 u).cell? ⟨cb, 1, none⟩ = some (.int .i64 k) := (World.cell?_of_block (w := w2) (a := ⟨cb, 1, none⟩) (six_heap w2 R 0 cb u (by omega))).trans h2.c1
  obtain ⟨p0, p1⟩ := two_c g' k' a0 a1
  obtain ⟨q0, q1⟩ := two_c g' k' h2.c0 h2.c1
  constructor
  · refine h.via (fun b hl hne => ?_) (by rw [two_size, six_size]; exact hs) ?_ p0 p1 (by rw [two_f, six_f]; exact h2.f0) (by rw [two_f, six_f]; exact h2.f1)
    · rw [two_heap _ _ _ _ _ hne, six_heap _ _ _ _ _ (by omega)]
      exact hb.block b hl
    · exact ((six_below h2.b (by have := h.b.size; omega)).setCell (show w0.heap.size ≤ cb by omega) _).setCell (show w0.heap.size ≤ cb by omega) _
  · refine h.via (fun b hl hne => ?_) (by rw [six_size, two_size]; exact hs) ?_ ((World.cell?_of_block (w := two w2 cb g' k') (a := ⟨cb, 0, none⟩) (six_heap _ R 0 cb u (by omega))).trans q0) ((World.cell?_of_block (w := two w2 cb g' k') (a := ⟨cb, 1, none⟩) (six_heap _ R 0 cb u (by omega))).trans q1) (by rw [six_f, two_f]; exact h2.f0) (by rw [six_f, two_f]; exact h2.f1)
    · rw [six_heap _ _ _ _ _ (by omega), two_heap _ _ _ _ _ hne]
      exact hb.block b hl
    · exact six_below ((h2.b.setCell (show w0.heap.size ≤ cb by omega) _).setCell (show w0.heap.size ≤ cb by omega) _) (by have := h.b.size; omega)

/-! what Next answers -/
theorem told_fill (gv : Nat → Nat → Int) (n : Nat) (r : Rd) (hG : r.G = false) (hN : r.N < n) (hS : r.S r.N = true) : told gv n (Rd.tell n r) = told gv n r ++ strip gv r.N := by
  have e : Rd.tell n r = ⟨r.S, r.N + 1, false⟩ := by unfold Rd.tell; rw [hG]; simp [hN, hS]
  rw [e]
  unfold told
  simp [hG, List.range_succ]
theorem told_end (gv : Nat → Nat → Int) (n : Nat) (r : Rd) (hG : r.G = false) (hN : ¬ r.N < n) (hS : r.S n = true) : told gv n (Rd.tell n r) = told gv n r ++ strip gv n := by
  have e : Rd.tell n r = ⟨r.S, r.N, true⟩ := by unfold Rd.tell; rw [hG]; simp [hN, hS]
  rw [e]
  unfold told
  simp [hG]
def Nexts (gv : Nat → Nat → Int) (n : Nat) (r : Rd) (r0 r1 r2 r3 : Int) : Prop :=
  (r0 = 0 ∧ Rd.tell n r = r) ∨ (r0 ≠ 0 ∧ count (Rd.tell n r) = count r + 1 ∧ told gv n (Rd.tell n r) = told gv n r ++ [.int .i64 r0, .int .i64 r1, .int .i64 r2, .int .i64 r3, .int .i64 0, .int .i64 0])
theorem next_two (gv : Nat → Nat → Int) (n : Nat) (r : Rd) (hn : n ≤ 4) (hN : r.N ≤ n) (hG : r.G = false) (hk : ∀ k, k < n → gv k 0 = 1) (he0 : 2 ≤ gv n 0) (he1 : gv n 0 ≤ 5) (he2 : gv n 2 = n) (he4 : gv n 4 = 0) (he5 : gv n 5 = 0)
    (u e : Nat → Int) (hu : ∀ j, u j = if r.N < n then (if r.S r.N then gv r.N j else 0) else 0) (he : ∀ j, e j = if r.S n then gv n j else 0) :
    ∃ r0 r1 r2 r3 : Int, (∀ W, Calls Try.prog 39 #[.agg #[.int .i64 1, .int .i64 r.N], .agg #[.int .i64 (u 0), .int .i64 (u 1), .int .i64 (u 2), .int .i64 (u 3), .int .i64 (u 4), .int .i64 (u 5)], .agg #[.int .i64 (e 0), .int .i64 (e 1), .int .i64 (e 2), .int .i64 (e 3), .int .i64 (e 4), .int .i64 (e 5)]] W
        (NextPost W r0 r1 r2 r3 0 0 (gen (Rd.tell n r)) (num (Rd.tell n r)))) ∧ Nexts gv n r r0 r1 r2 r3 := by
  by_cases h1 : r.N < n
  · by_cases h2 : r.S r.N = true
    · have hu' : ∀ j, u j = gv r.N j := fun j => by rw [hu, if_pos h1, if_pos h2]
      have e1 : Rd.tell n r = ⟨r.S, r.N + 1, false⟩ := by unfold Rd.tell; rw [hG]; simp [h1, h2]
      refine ⟨1, gv r.N 1, gv r.N 2, gv r.N 3, fun W => ?_, .inr ⟨by decide, ?_, ?_⟩⟩
      · rw [e1, hu' 0, hu' 1, hu' 2, hu' 3, hk _ h1]
        exact next_fill 1 (r.N : Int) _ _ _ _ _ _ _ _ _ _ _ W (by omega) (by omega)
      · rw [e1]; simp [count, hG]
      · rw [told_fill gv n r hG h1 h2]
        unfold strip
        rw [hk _ h1]
    · have hu' : ∀ j, u j = 0 := fun j => by rw [hu, if_pos h1, if_neg h2]
      have e1 : Rd.tell n r = r := by unfold Rd.tell; rw [hG]; simp [h1, h2]
      refine ⟨0, 0, 0, 0, fun W => ?_, .inl ⟨rfl, e1⟩⟩
      rw [e1, show gen r = 1 by simp [gen, hG], show num r = (r.N : Int) by simp [num, hG]]
      by_cases h3 : r.S n = true
      · have he' : ∀ j, e j = gv n j := fun j => by rw [he, if_pos h3]
        exact next_wait _ _ _ _ _ _ _ _ _ _ _ _ _ _ W (by rw [hu']; decide) (by rw [he']; exact he0) (by rw [he']; exact he1) (by rw [he', he2]; omega)
      · have he' : ∀ j, e j = 0 := fun j => by rw [he, if_neg h3]
        exact next_low _ _ _ _ _ _ _ _ _ _ _ _ _ _ W (by rw [hu']; decide) (by rw [he']; decide)
  · have hu' : ∀ j, u j = 0 := fun j => by rw [hu, if_neg h1]
    have hNn : r.N = n := by omega
    by_cases h3 : r.S n = true
    · have he' : ∀ j, e j = gv n j := fun j => by rw [he, if_pos h3]
      have e1 : Rd.tell n r = ⟨r.S, r.N, true⟩ := by unfold Rd.tell; rw [hG]; simp [h1, h3]
      refine ⟨gv n 0, gv n 1, gv n 2, gv n 3, fun W => ?_, .inr ⟨by omega, ?_, told_end gv n r hG h1 h3⟩⟩
      · rw [e1, he' 0, he' 1, he' 2, he' 3, he' 4, he' 5, he4, he5]
        have hx : gv n 2 = (r.N : Int) := by rw [he2, hNn]
        rw [hx]
        exact next_end 1 (r.N : Int) _ _ _ _ _ _ _ _ _ _ _ W (by rw [hu']; decide) he0 he1 (by decide) (by decide)
      · rw [e1]; simp [count, hG]
    · have he' : ∀ j, e j = 0 := fun j => by rw [he, if_neg h3]
      have e1 : Rd.tell n r = r := by unfold Rd.tell; rw [hG]; simp [h1, h3]
      refine ⟨0, 0, 0, 0, fun W => ?_, .inl ⟨rfl, e1⟩⟩
      rw [e1, show gen r = 1 by simp [gen, hG], show num r = (r.N : Int) by simp [num, hG]]
      exact next_low _ _ _ _ _ _ _ _ _ _ _ _ _ _ W (by rw [hu']; decide) (by rw [he']; decide)
theorem rd_G (n : Nat) (K : Nat → Nat) (i : Nat) : (rd n K i).G = true → (rd n K i).N = n := by
  induction i with
  | zero => intro h; cases h
  | succ i ih =>
    have key : ∀ q : Rd, q.N ≤ n → (q.G = true → q.N = n) → (Rd.tell n q).G = true → (Rd.tell n q).N = n := by
      intro q hq hG
      unfold Rd.tell
      split
      · exact hG
      · split
        · split
          · intro h; cases h
          · intro h; exact hG h
        · split
          · intro _; show q.N = n; omega
          · intro h; exact hG h
    refine key _ ?_ ?_
    · have := rd_le n K i
      split
      · exact this
      · exact this
    · split
      · exact ih
      · exact ih
end Reads8
end Go.Proofs.Ytdjdpbgemdmpiaa

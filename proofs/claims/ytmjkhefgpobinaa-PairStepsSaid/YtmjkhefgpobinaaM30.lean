/-
  Texts of the machine of pairs, part 30.
-/
import Derived.Test.YtmjkhefgpobinaaM1
import Derived.Test.YtmjkhefgpobinaaM2
import Derived.Test.YtmjkhefgpobinaaM27
import Derived.Test.YtmjkhefgpobinaaM28
namespace Go.Proofs.Ytmjkhefgpobinaa
open Go.ChangeShapes Go.WideShapes Go.ChangeAt Go.RowKit
open Go.Deep
/-- An order. -/
structure Odr where
  s : Cs
  t : Tm5
def od (e : Odr) : List Value := [.int .i64 e.s.kind, .bool e.s.flag, .int .i64 e.s.gen, .int .i64 e.s.left, .int .i64 e.s.fills, .int .i64 e.t.n, .int .i64 e.t.s, .int .i64 e.t.p, .int .i64 e.t.l, .int .i64 e.t.u]
def OD0 : Odr := ⟨⟨0, false, 0, 0, 0⟩, ⟨0, 0, 0, 0, 0⟩⟩
def OdsAt (A : Option Addr) (len : Nat) (g : Nat → Odr) (w : World) : Prop := 0 < len → ∃ ad, A = some ad ∧ ad.block < w.heap.size ∧ ∀ i, i < len → (∀ (j : Nat) (u : Value), (od (g i))[j]? = some u → w.cell? (ad.add (i * 10 + j)) = some u) ∧ WfS (g i).s ∧ WfT (g i).t
theorem OdsAt.below {A : Option Addr} {len : Nat} {g : Nat → Odr} {w w' : World} (h : OdsAt A len g w) (hb : Below w.heap.size w w') : OdsAt A len g w' := fun h0 => by
  obtain ⟨ad, e, hl, hc⟩ := h h0
  refine ⟨ad, e, by have := hb.size; omega, fun i hi => ⟨fun j u hu => ?_, (hc i hi).2⟩⟩
  have hlt : (ad.add (i * 10 + j)).block < w.heap.size := by rw [block_of_add]; exact hl
  rw [hb.cell hlt]
  exact (hc i hi).1 j u hu
theorem cellsO : Try.prog.cellsOf 87 = 10 := by kernel_rfl
theorem cellsS : Try.prog.cellsOf 42 = 5 := by kernel_rfl
theorem cellsT : Try.prog.cellsOf 44 = 5 := by kernel_rfl
theorem cells3 : Try.prog.cellsOf 3 = 1 := by kernel_rfl
theorem cells4 : Try.prog.cellsOf 4 = 1 := by kernel_rfl
theorem list10 {l : List Value} (h : l.length = 10) : ∃ a0 a1 a2 a3 a4 a5 a6 a7 a8 a9, l = [a0, a1, a2, a3, a4, a5, a6, a7, a8, a9] := by
  match l, h with
  | [a0, a1, a2, a3, a4, a5, a6, a7, a8, a9], _ => exact ⟨_, _, _, _, _, _, _, _, _, _, rfl⟩
theorem wf_in {z : Int} (h : (Lit.int .i64 z).wf = true) : -9223372036854775808 ≤ z ∧ z ≤ 9223372036854775807 := by
  unfold Lit.wf at h
  rw [Bool.and_eq_true, decide_eq_true_eq, decide_eq_true_eq] at h
  exact h
theorem cell_lt {w : World} {a : Addr} {v : Value} (h : w.cell? a = some v) : a.block < w.heap.size := by
  rcases Nat.lt_or_ge a.block w.heap.size with hlt | hge
  · exact hlt
  · have e : w.heap[a.block]? = none := Array.getElem?_eq_none hge
    simp [World.cell?, e] at h
section
variable {H : Type} {enc : TypeId × Value → H} {w : World} {base : Nat} {spare : Nat → Bool} {held : Bool}
theorem get_some {α : Type} {xs : List α} {i : Nat} (h : i < xs.length) : xs[i]? = some (xs[i]'h) := List.getElem?_eq_getElem h
set_option maxRecDepth 100000 in
set_option maxHeartbeats 4000000 in
theorem od_of {fuel : Nat} {cs : List Value} {x : DataW H × List MemPlace} (h : DataW.trod enc Try.prog w base spare held fuel 87 cs = some x) : ∃ e : Odr, cs = od e ∧ WfS e.s ∧ WfT e.t := by
  obtain ⟨xs, n, _, _, hl, hxl, hf⟩ := DataW.trod_struct Try.underlying87 h
  rw [cellsO] at hl
  obtain ⟨c0, c1, c2, c3, c4, c5, c6, c7, c8, c9, rfl⟩ := list10 hl
  have hx : xs.length = 2 := hxl
  have f0 := (hf 0 _ rfl).trans (get_some (show 0 < xs.length from by omega))
  change DataW.trod enc Try.prog w base spare held n 42 (List.take (Try.prog.cellsOf 42) (List.drop 0 [c0, c1, c2, c3, c4, c5, c6, c7, c8, c9])) = _ at f0
  simp only [cellsS, List.drop, List.take] at f0
  have f1 := (hf 1 _ rfl).trans (get_some (show 1 < xs.length from by omega))
  change DataW.trod enc Try.prog w base spare held n 44 (List.take (Try.prog.cellsOf 44) (List.drop 5 [c0, c1, c2, c3, c4, c5, c6, c7, c8, c9])) = _ at f1
  simp only [cellsT, List.drop, List.take] at f1
  obtain ⟨ys0, m0, _, _, hl0, hyl0, hg0⟩ := DataW.trod_struct Try.underlying42 f0
  have hy0 : ys0.length = 5 := hyl0
  have ga0 := (hg0 0 _ rfl).trans (get_some (show 0 < ys0.length from by omega))
  change DataW.trod enc Try.prog w base spare held m0 3 (List.take (Try.prog.cellsOf 3) (List.drop 0 [c0, c1, c2, c3, c4])) = _ at ga0
  simp only [cells3, List.drop, List.take] at ga0
  have ga1 := (hg0 1 _ rfl).trans (get_some (show 1 < ys0.length from by omega))
  change DataW.trod enc Try.prog w base spare held m0 4 (List.take (Try.prog.cellsOf 4) (List.drop 1 [c0, c1, c2, c3, c4])) = _ at ga1
  simp only [cells4, List.drop, List.take] at ga1
  have ga2 := (hg0 2 _ rfl).trans (get_some (show 2 < ys0.length from by omega))
  change DataW.trod enc Try.prog w base spare held m0 3 (List.take (Try.prog.cellsOf 3) (List.drop 2 [c0, c1, c2, c3, c4])) = _ at ga2
  simp only [cells3, List.drop, List.take] at ga2
  have ga3 := (hg0 3 _ rfl).trans (get_some (show 3 < ys0.length from by omega))
  change DataW.trod enc Try.prog w base spare held m0 3 (List.take (Try.prog.cellsOf 3) (List.drop 3 [c0, c1, c2, c3, c4])) = _ at ga3
  simp only [cells3, List.drop, List.take] at ga3
  have ga4 := (hg0 4 _ rfl).trans (get_some (show 4 < ys0.length from by omega))
  change DataW.trod enc Try.prog w base spare held m0 3 (List.take (Try.prog.cellsOf 3) (List.drop 4 [c0, c1, c2, c3, c4])) = _ at ga4
  simp only [cells3, List.drop, List.take] at ga4
  obtain ⟨ys1, m1, _, _, hl1, hyl1, hg1⟩ := DataW.trod_struct Try.underlying44 f1
  have hy1 : ys1.length = 5 := hyl1
  have gb0 := (hg1 0 _ rfl).trans (get_some (show 0 < ys1.length from by omega))
  change DataW.trod enc Try.prog w base spare held m1 3 (List.take (Try.prog.cellsOf 3) (List.drop 0 [c5, c6, c7, c8, c9])) = _ at gb0
  simp only [cells3, List.drop, List.take] at gb0
  have gb1 := (hg1 1 _ rfl).trans (get_some (show 1 < ys1.length from by omega))
  change DataW.trod enc Try.prog w base spare held m1 3 (List.take (Try.prog.cellsOf 3) (List.drop 1 [c5, c6, c7, c8, c9])) = _ at gb1
  simp only [cells3, List.drop, List.take] at gb1
  have gb2 := (hg1 2 _ rfl).trans (get_some (show 2 < ys1.length from by omega))
  change DataW.trod enc Try.prog w base spare held m1 3 (List.take (Try.prog.cellsOf 3) (List.drop 2 [c5, c6, c7, c8, c9])) = _ at gb2
  simp only [cells3, List.drop, List.take] at gb2
  have gb3 := (hg1 3 _ rfl).trans (get_some (show 3 < ys1.length from by omega))
  change DataW.trod enc Try.prog w base spare held m1 3 (List.take (Try.prog.cellsOf 3) (List.drop 3 [c5, c6, c7, c8, c9])) = _ at gb3
  simp only [cells3, List.drop, List.take] at gb3
  have gb4 := (hg1 4 _ rfl).trans (get_some (show 4 < ys1.length from by omega))
  change DataW.trod enc Try.prog w base spare held m1 3 (List.take (Try.prog.cellsOf 3) (List.drop 4 [c5, c6, c7, c8, c9])) = _ at gb4
  simp only [cells3, List.drop, List.take] at gb4
  obtain ⟨za0, rfl, wa0⟩ := field_int Try.underlying3 ⟨_, _, ga0⟩
  obtain ⟨za1, rfl⟩ := field_bool Try.underlying4 ⟨_, _, ga1⟩
  obtain ⟨za2, rfl, wa2⟩ := field_int Try.underlying3 ⟨_, _, ga2⟩
  obtain ⟨za3, rfl, wa3⟩ := field_int Try.underlying3 ⟨_, _, ga3⟩
  obtain ⟨za4, rfl, wa4⟩ := field_int Try.underlying3 ⟨_, _, ga4⟩
  obtain ⟨zb0, rfl, wb0⟩ := field_int Try.underlying3 ⟨_, _, gb0⟩
  obtain ⟨zb1, rfl, wb1⟩ := field_int Try.underlying3 ⟨_, _, gb1⟩
  obtain ⟨zb2, rfl, wb2⟩ := field_int Try.underlying3 ⟨_, _, gb2⟩
  obtain ⟨zb3, rfl, wb3⟩ := field_int Try.underlying3 ⟨_, _, gb3⟩
  obtain ⟨zb4, rfl, wb4⟩ := field_int Try.underlying3 ⟨_, _, gb4⟩
  exact ⟨⟨⟨za0, za1, za2, za3, za4⟩, ⟨zb0, zb1, zb2, zb3, zb4⟩⟩, rfl, ⟨wf_in wa0, wf_in wa2, wf_in wa3, wf_in wa4⟩, ⟨wf_in wb0, wf_in wb1, wf_in wb2, wf_in wb3, wf_in wb4⟩⟩
set_option maxRecDepth 100000 in
theorem open_ods {r : Reach} {b0 : Nat} {v : Value} {d : DataW H} {p : List MemPlace}
    (hv : Value.okWide Try.prog w r b0 24 v) (h : DataW.Trod enc Try.prog w base (fun _ => true) held 24 v d p) :
    ∃ (a : Option Addr) (len cap : Nat) (g : Nat → Odr), v = .slice a len cap ∧ OdsAt a len g w := by
  obtain ⟨a, len, cap, rfl⟩ := okWide_slice Try.underlying24 hv
  obtain ⟨fuel, hf⟩ := h
  rcases open_slice Try.underlying24 hf with ⟨hcs, _⟩ | ⟨x, l, c, m, n, D, Pl, hcs, _, hl, hm, hmm, _, hi⟩
  · simp [Value.cells] at hcs
    obtain ⟨rfl, rfl, rfl⟩ := hcs
    exact ⟨_, _, _, fun _ => OD0, rfl, fun h => absurd h (by omega)⟩
  · simp [Value.cells] at hcs
    obtain ⟨rfl, rfl, rfl⟩ := hcs
    have hmc : m = cap := by rw [hmm]; exact if_pos rfl
    have key : ∀ i, i < len → ∃ e : Odr, (∀ (j : Nat) (u : Value), (od e)[j]? = some u → w.cell? (x.add (i * 10 + j)) = some u) ∧ WfS e.s ∧ WfT e.t := by
      intro i hil
      obtain ⟨cs', hc, ht'⟩ := hi i (by omega)
      rw [cellsO] at hc
      obtain ⟨e, rfl, we⟩ := od_of ht'
      obtain ⟨_, hcl, hat⟩ := World.cells?_some hc
      refine ⟨e, fun j u hu => ?_, we⟩
      have hj : j < 10 := by
        have := (List.getElem?_eq_some_iff.1 hu).1
        exact this
      rw [← Go.Deep.add_add, hat j hj]
      exact hu
    refine ⟨some x, len, cap, fun i => if hil : i < len then Classical.choose (key i hil) else OD0, rfl, fun h0 => ⟨x, rfl, ?_, fun i hil => ?_⟩⟩
    · obtain ⟨e, hc, _⟩ := key 0 h0
      have := cell_lt (hc 0 _ rfl)
      rw [block_of_add] at this
      exact this
    · simp only [dif_pos hil]
      exact Classical.choose_spec (key i hil)
end
end Go.Proofs.Ytmjkhefgpobinaa

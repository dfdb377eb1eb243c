/-
  Rows of rows of ints, opened to their cells.
-/
import Derived.OpenShut
import Derived.Deep.Slices
import Derived.Deep.Fields
import Derived.ChangeSame
import Derived.Test.YtdlgpbmeeiakdaaRows
import Derived.Test.YtdlgpbmeeiakdaaKit
import Derived.Test.YtdlgpbmeeiakdaaApp
namespace Go.Proofs.Ytdlgpbmeeiakdaa
open Go.ChangeShapes Go.WideShapes Go.ChangeAt Go.RowKit
theorem cell_lt2 {w : World} {a : Addr} {v : Value} (h : w.cell? a = some v) : a.block < w.heap.size := by
  rcases Nat.lt_or_ge a.block w.heap.size with hlt | hge
  · exact hlt
  · have e : w.heap[a.block]? = none := Array.getElem?_eq_none hge
    simp [World.cell?, e] at h
def ints (xs : List Int) : List Value := xs.map (Value.int .i64)
theorem ints_len (xs : List Int) : (ints xs).length = xs.length := by unfold ints; rw [List.length_map]
/-- A row of rows. -/
def SlsAt (A : Option Addr) (len : Nat) (g : Nat → List Int) (w : World) : Prop := 0 < len → ∃ ad, A = some ad ∧ ad.block < w.heap.size ∧ ∀ i, i < len → ∃ (B : Option Addr) (c : Nat), w.cell? (ad.add i) = some (.slice B (g i).length c) ∧ Reads w w.heap.size 1 B (g i).length (ints (g i))
section
open Go.Deep
variable {H : Type} {enc : TypeId × Value → H} {w : World} {base : Nat} {held : Bool}
set_option maxRecDepth 100000 in
theorem open_sls {r : Reach} {b0 : Nat} {v : Value} {d : DataW H} {p : List MemPlace}
    (hv : Value.okWide Try.prog w r b0 45 v) (h : DataW.Trod enc Try.prog w base (fun _ => true) held 45 v d p) :
    ∃ (a : Option Addr) (len cap : Nat) (g : Nat → List Int), v = .slice a len cap ∧ SlsAt a len g w := by
  obtain ⟨a, len, cap, rfl⟩ := okWide_slice Try.underlying45 hv
  obtain ⟨fuel, hf⟩ := h
  rcases open_slice Try.underlying45 hf with ⟨hcs, _⟩ | ⟨x, l, c, m, n, D, Pl, hcs, _, hl, hm, hmm, _, hi⟩
  · simp [Value.cells] at hcs
    obtain ⟨rfl, rfl, rfl⟩ := hcs
    exact ⟨_, _, _, fun _ => [], rfl, fun h => absurd h (by omega)⟩
  · simp [Value.cells] at hcs
    obtain ⟨rfl, rfl, rfl⟩ := hcs
    have hmc : m = cap := by rw [hmm]; exact if_pos rfl
    have hC : Try.prog.cellsOf 35 = 1 := by kernel_rfl
    have hCi : Try.prog.cellsOf 3 = 1 := by kernel_rfl
    have key : ∀ i, i < len → ∃ ys : List Int, ∃ (B : Option Addr) (c : Nat), w.cell? (x.add i) = some (.slice B ys.length c) ∧ Reads w w.heap.size 1 B ys.length (ints ys) := by
      intro i hil
      obtain ⟨cs', hc, ht'⟩ := hi i (by omega)
      rw [hC, Nat.mul_one] at hc
      obtain ⟨hcl0, hcl, hat⟩ := World.cells?_some hc
      rcases open_ints Try.underlying35 Try.underlying3 hCi ht' with ⟨hcs, _⟩ | ⟨x', l', c', zs, hcs, _, hl', hm', hz, _, hcell, hwz⟩
      · subst hcs
        refine ⟨[], none, 0, ?_, Reads.none_⟩
        have := hat 0 (by decide)
        rw [add_of_add, Nat.add_zero] at this
        exact this
      · subst hcs
        have e0 := hat 0 (by decide)
        rw [add_of_add, Nat.add_zero] at e0
        have hzl : zs.length = c' := by simpa using hz
        have htl : (zs.take l').length = l' := by rw [List.length_take]; omega
        refine ⟨zs.take l', some x', c', by rw [htl]; exact e0, ⟨by simp [ints], fun h0 => ⟨x', rfl, ?_, fun j u hu => ?_⟩⟩⟩
        · have := cell_lt2 (hcell 0 (by omega))
          rw [block_of_add] at this
          exact this
        · have hj : j < l' := by
            have := (List.getElem?_eq_some_iff.1 hu).1
            rw [ints_len, htl] at this
            exact this
          rw [hcell j (by omega)]
          unfold ints at hu
          rw [List.getElem?_map, List.getElem?_take, if_pos hj, List.getElem?_eq_getElem (by omega)] at hu
          rw [List.getD_eq_getElem?_getD, List.getElem?_eq_getElem (by omega)]
          exact hu
    refine ⟨some x, len, cap, fun i => if hil : i < len then Classical.choose (key i hil) else [], rfl, fun h0 => ⟨x, rfl, ?_, fun i hil => ?_⟩⟩
    · obtain ⟨ys, B, c, hc, _⟩ := key 0 h0
      have := cell_lt2 hc
      rw [block_of_add] at this
      exact this
    · simp only [dif_pos hil]
      exact Classical.choose_spec (key i hil)
end
end Go.Proofs.Ytdlgpbmeeiakdaa

/-
  Events as a parameter.
-/
import Derived.Test.YtafnipgeeampjaaGreatDoorRows
import Derived.Test.YtafnipgeeampjaaGreatDoorKit
import Derived.Test.YtafnipgeeampjaaGreatDoorApp
import Derived.Test.YtafnipgeeampjaaGreatDoorQuiet
import Derived.WalkKit
import Derived.ProofKit
import Derived.OpenShut
import Derived.ShutString
import Derived.Below
import Derived.Outline
import Derived.WalkLawsBesides
import Derived.WalkSpells
import Derived.Handy
import Derived.Deep.QuietTactic
import Derived.BigQuiet
import Derived.RegionTactic
import Derived.ChangeAlike
import Derived.Lib.Hide
import Derived.Laws.Rows
import Derived.Laws.Tables
import Derived.Laws.CopyOwn
import Derived.Laws.MakeOwn
import Derived.Laws.Entries
import Derived.Laws.OwnMore
import Derived.Deep.WholeRow
import Derived.Deep.LoopGhost
import Derived.Deep.AppendLies
import Derived.Deep.Draws
import Derived.Maps.AppendAt
import Derived.OwnWalk
import Derived.Deep.RegionHeld3
import Derived.Deep.Cut
import Derived.Deep.CutRange
import Derived.Deep.DeepCutAuto
import Derived.Deep.CutBlock
import Derived.Lib.SliceRun
import Derived.IntWalk
import Derived.Laws.Strings
import Derived.Lib.Bytealg
import Derived.Lib.Strings
import Derived.Laws.Externs
import Derived.Test.YtafnipgeeampjaaGreatDoorSrZ
import Derived.Test.YtafnipgeeampjaaGreatDoorSrG
namespace Go.Proofs.YtafnipgeeampjaaGreatDoor
open Go.ChangeShapes Go.WideShapes Go.ChangeAt Go.RowKit
section
open Go.Deep
theorem cells_i : Tryz.prog.cellsOf 3 = 1 := by kernel_rfl
theorem cells_e : Tryz.prog.cellsOf 39 = 4 := by kernel_rfl
theorem bytes_e : Tryz.prog.bytesOf 39 = 40 := by kernel_rfl
theorem get_some {α : Type} {xs : List α} {i : Nat} (h : i < xs.length) : xs[i]? = some (xs[i]'h) := List.getElem?_eq_getElem h
section
variable {H : Type} {enc : TypeId × Value → H} {w : World} {base : Nat} {spare : Nat → Bool} {held : Bool}
theorem int1 {n : Nat} {c : Value} {y : DataW H × List MemPlace} (h : DataW.trod enc Tryz.prog w base spare held n 3 [c] = some y) : ∃ a : Int, c = .int .i64 a := by
  obtain ⟨a, e, _, hw⟩ := DataW.trod_int Tryz.underlying3 h
  injection e with e1 _
  exact ⟨a, e1⟩
theorem str1 {n : Nat} {c : Value} {y : DataW H × List MemPlace} (h : DataW.trod enc Tryz.prog w base spare held n 9 [c] = some y) : ∃ s : List UInt8, c = .string (Bs s) ∧ y.1 = .lit (.string s) := by
  obtain ⟨s, e, h2, _⟩ := DataW.trod_string Tryz.underlying9 h
  injection e with e1 _
  have h2 := congrArg Prod.fst h2
  exact ⟨s.data.toList, by rw [e1, Bs_of], by first | exact h2 | (rw [h2])⟩
set_option maxRecDepth 100000 in
theorem evr_of {fuel : Nat} {cs : List Value} {x : DataW H × List MemPlace} (h : DataW.trod enc Tryz.prog w base spare held fuel 39 cs = some x) (hw : ∀ n ∈ DataW.weights Tryz.prog 39 x.1, n ≤ reachBytes) : ∃ e : Sev, cs = [.int .i64 e.k, .int .i64 e.who, .int .i64 e.n, .string (Bs e.line)] ∧ e.line.length ≤ reachBytes := by
  obtain ⟨xs, n, _, hx1, hl, hxl, hf⟩ := DataW.trod_struct Tryz.underlying39 h
  rw [cells_e] at hl
  obtain ⟨c0, c1, c2, c3, rfl⟩ := list4 hl
  have hx : xs.length = 4 := hxl
  have f0 := (hf 0 _ rfl).trans (get_some (show 0 < xs.length from by omega))
  change DataW.trod enc Tryz.prog w base spare held _ 3 (List.take (Tryz.prog.cellsOf 3) (List.drop 0 [c0, c1, c2, c3])) = _ at f0
  simp only [cells_i, List.drop, List.take] at f0
  have f1 := (hf 1 _ rfl).trans (get_some (show 1 < xs.length from by omega))
  change DataW.trod enc Tryz.prog w base spare held _ 3 (List.take (Tryz.prog.cellsOf 3) (List.drop 1 [c0, c1, c2, c3])) = _ at f1
  simp only [cells_i, List.drop, List.take] at f1
  have f2 := (hf 2 _ rfl).trans (get_some (show 2 < xs.length from by omega))
  change DataW.trod enc Tryz.prog w base spare held _ 3 (List.take (Tryz.prog.cellsOf 3) (List.drop 2 [c0, c1, c2, c3])) = _ at f2
  simp only [cells_i, List.drop, List.take] at f2
  have f3 := (hf 3 _ rfl).trans (get_some (show 3 < xs.length from by omega))
  change DataW.trod enc Tryz.prog w base spare held _ 9 (List.take (Tryz.prog.cellsOf 9) (List.drop 3 [c0, c1, c2, c3])) = _ at f3
  simp only [cells_s, List.drop, List.take] at f3
  obtain ⟨a0, rfl⟩ := int1 f0
  obtain ⟨a1, rfl⟩ := int1 f1
  obtain ⟨a2, rfl⟩ := int1 f2
  obtain ⟨s, rfl, hs⟩ := str1 f3
  refine ⟨⟨a0, a1, a2, s⟩, rfl, hw s.length ?_⟩
  rw [hx1]
  simp only [DataW.weights, Tryz.underlying39]
  refine DataW.weights_mem_each (j := 3) (t := 9) (d := (xs[3]'(by omega)).1) rfl (by rw [List.getElem?_map, List.getElem?_eq_getElem (by omega)]; rfl) _ ?_
  rw [hs]
  simp [DataW.weights]
set_option maxRecDepth 100000 in
/-- Events as a parameter. -/
theorem open_evr {r : Reach} {b0 : Nat} {v : Value} {d : DataW H} {p : List MemPlace} (hv : Value.okWide Tryz.prog w r b0 30 v) (h : DataW.Trod enc Tryz.prog w base (fun _ => true) held 30 v d p) (hw : ∀ n ∈ DataW.weights Tryz.prog 30 d, n ≤ reachBytes) : ∃ (A : Option Addr) (L : List Sev) (cap : Nat), v = .slice A L.length cap ∧ SvAt A L w ∧ L.length ≤ 140737488355328 ∧ ∀ e ∈ L, e.line.length ≤ 140737488355328 := by
  obtain ⟨A, len, cap, rfl⟩ := okWide_slice Tryz.underlying30 hv
  obtain ⟨fuel, hf⟩ := h
  have hr := reachBytes_lt
  have h47 : (2 : Nat) ^ 47 = 140737488355328 := by decide
  rcases DataW.trod_slice Tryz.underlying30 hf with ⟨hc, _⟩ | ⟨a, len', cap', elems, rest, n, _, hc, hx, _, _, _, hl, he, _⟩
  · simp [Value.cells] at hc
    obtain ⟨rfl, rfl, rfl⟩ := hc
    exact ⟨none, [], 0, rfl, SvAt.nil _ _, by simp, by simp⟩
  · simp [Value.cells] at hc
    obtain ⟨rfl, rfl, rfl⟩ := hc
    have key : ∀ i, i < len → ∃ e : Sev, (w.cell? (a.add (i * 4)) = some (.int .i64 e.k) ∧ w.cell? (a.add (i * 4 + 1)) = some (.int .i64 e.who) ∧ w.cell? (a.add (i * 4 + 2)) = some (.int .i64 e.n) ∧ w.cell? (a.add (i * 4 + 3)) = some (.string (Bs e.line))) ∧ e.line.length ≤ reachBytes := by
      intro i hi
      have h1 := he i hi
      rw [cells_e, List.getElem?_eq_getElem (by omega)] at h1
      obtain ⟨cs', hcs, ht'⟩ := Option.bind_eq_some_iff.1 h1
      obtain ⟨e, rfl, hle⟩ := evr_of ht' (fun m hm => hw m (by
        rw [show d = _ from congrArg Prod.fst hx]
        simp only [DataW.weights, Tryz.underlying30]
        refine List.mem_cons_of_mem _ (List.mem_append_left _ (weightsAll_mem (List.mem_map.2 ⟨_, List.getElem_mem _, rfl⟩) _ hm))))
      obtain ⟨_, hcl, hat⟩ := World.cells?_some hcs
      have g0 := hat 0 (by decide)
      have g1 := hat 1 (by decide)
      have g2 := hat 2 (by decide)
      have g3 := hat 3 (by decide)
      rw [Go.Deep.add_add] at g0 g1 g2 g3
      exact ⟨e, ⟨g0, g1, g2, g3⟩, hle⟩
    obtain ⟨L, hL, hLL⟩ : ∃ L : List Sev, L.length = len ∧ ∀ (i : Nat) (e : Sev), L[i]? = some e → (w.cell? (a.add (i * 4)) = some (.int .i64 e.k) ∧ w.cell? (a.add (i * 4 + 1)) = some (.int .i64 e.who) ∧ w.cell? (a.add (i * 4 + 2)) = some (.int .i64 e.n) ∧ w.cell? (a.add (i * 4 + 3)) = some (.string (Bs e.line))) ∧ e.line.length ≤ reachBytes := by
      refine ⟨(List.range len).map fun i => if hi : i < len then Classical.choose (key i hi) else ⟨0, 0, 0, []⟩, by simp, fun i e hi => ?_⟩
      rw [List.getElem?_map] at hi
      obtain ⟨j, hj, he2⟩ := Option.map_eq_some_iff.1 hi
      obtain ⟨hjl, hje⟩ := List.getElem?_eq_some_iff.1 hj
      rw [List.length_range] at hjl
      rw [List.getElem_range] at hje
      subst hje
      rw [dif_pos hjl] at he2
      have := Classical.choose_spec (key i hjl)
      rw [he2] at this
      exact this
    have hlen : len * 40 ≤ reachBytes := by
      have h2 := hw ((elems.length + rest.length) * 40) (by
        rw [show d = _ from congrArg Prod.fst hx]
        simp [DataW.weights, Tryz.underlying30, bytes_e])
      have h3 : len * 40 ≤ (elems.length + rest.length) * 40 := Nat.mul_le_mul_right 40 (by omega)
      omega
    refine ⟨some a, L, cap, by rw [hL], (fun h0 => ⟨a, rfl, ?_, fun i e hi => (hLL i e hi).1⟩), by omega, fun e he' => ?_⟩
    · have := cell_lt (hLL 0 L[0] (List.getElem?_eq_getElem h0)).1.1
      rw [block_of_add] at this
      exact this
    · obtain ⟨i, hi, rfl⟩ := List.getElem_of_mem he'
      have := (hLL i _ (List.getElem?_eq_getElem hi)).2
      omega
end
end

end Go.Proofs.YtafnipgeeampjaaGreatDoor

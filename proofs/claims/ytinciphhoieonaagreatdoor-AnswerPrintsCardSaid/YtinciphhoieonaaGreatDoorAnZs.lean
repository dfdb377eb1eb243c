/-
  A reply of the program's as a law's parameter.
-/
import Derived.Test.YtinciphhoieonaaGreatDoorRows
import Derived.Test.YtinciphhoieonaaGreatDoorKit
import Derived.Test.YtinciphhoieonaaGreatDoorApp
import Derived.Test.YtinciphhoieonaaGreatDoorQuiet
import Derived.WalkKit
import Derived.ProofKit
import Derived.OpenShut
import Derived.ShutString
import Derived.Below
import Derived.Outline
import Derived.WalkLawsBesides
import Derived.WalkSpells
import Derived.Handy
import Derived.Deep.QuietTactic
import Derived.BigQuiet
import Derived.RegionTactic
import Derived.ChangeAlike
import Derived.Lib.Hide
import Derived.Laws.Rows
import Derived.Laws.Tables
import Derived.Laws.CopyOwn
import Derived.Laws.MakeOwn
import Derived.Laws.Entries
import Derived.Laws.OwnMore
import Derived.Deep.WholeRow
import Derived.Deep.LoopGhost
import Derived.Deep.AppendLies
import Derived.Deep.Draws
import Derived.Maps.AppendAt
import Derived.OwnWalk
import Derived.Deep.RegionHeld3
import Derived.Deep.Cut
import Derived.Deep.CutRange
import Derived.Deep.DeepCutAuto
import Derived.Deep.CutBlock
import Derived.Lib.SliceRun
import Derived.IntWalk
import Derived.Laws.Strings
import Derived.Lib.Bytealg
import Derived.Lib.Strings
import Derived.Laws.Externs
import Derived.Test.YtinciphhoieonaaGreatDoorAnB
import Derived.SizedLaws
import Derived.ChangeArms
import Derived.ChangeSame
import Derived.Deep.Slices
import Derived.Deep.Fields
namespace Go.Proofs.YtinciphhoieonaaGreatDoor
open Go.ChangeShapes Go.WideShapes Go.ChangeAt Go.RowKit
theorem list13' {α : Type} {l : List α} (h : l.length = 13) : ∃ c0 c1 c2 c3 c4 c5 c6 c7 c8 c9 c10 c11 c12, l = [c0, c1, c2, c3, c4, c5, c6, c7, c8, c9, c10, c11, c12] := by
  match l, h with
  | [c0, c1, c2, c3, c4, c5, c6, c7, c8, c9, c10, c11, c12], _ => exact ⟨c0, c1, c2, c3, c4, c5, c6, c7, c8, c9, c10, c11, c12, rfl⟩
section
open Go.Deep
theorem cells_i : Tryz.prog.cellsOf 3 = 1 := by kernel_rfl
theorem cells_b : Tryz.prog.cellsOf 4 = 1 := by kernel_rfl
theorem cells_c : Tryz.prog.cellsOf 22 = 1 := by kernel_rfl
theorem cells_l : Tryz.prog.cellsOf 54 = 3 := by kernel_rfl
theorem cells_ls : Tryz.prog.cellsOf 25 = 1 := by kernel_rfl
theorem cells_r : Tryz.prog.cellsOf 24 = 6 := by kernel_rfl
theorem cells_rr : Tryz.prog.cellsOf 27 = 13 := by kernel_rfl
theorem bytes_l : Tryz.prog.bytesOf 54 = 24 := by kernel_rfl
theorem cell_lt {w : World} {a : Addr} {v : Value} (h : w.cell? a = some v) : a.block < w.heap.size := by
  rcases Nat.lt_or_ge a.block w.heap.size with hlt | hge
  · exact hlt
  · have e : w.heap[a.block]? = none := Array.getElem?_eq_none hge
    simp [World.cell?, e] at h
theorem get_some {α : Type} {xs : List α} {i : Nat} (h : i < xs.length) : xs[i]? = some (xs[i]'h) := List.getElem?_eq_getElem h
section
variable {H : Type} {enc : TypeId × Value → H} {w : World} {base : Nat} {spare : Nat → Bool} {held : Bool}
theorem int1 {n : Nat} {c : Value} {y : DataW H × List MemPlace} (h : DataW.trod enc Tryz.prog w base spare held n 3 [c] = some y) : ∃ a : Int, c = .int .i64 a ∧ a ≤ 9223372036854775807 := by
  obtain ⟨a, e, _, hw⟩ := DataW.trod_int Tryz.underlying3 h
  injection e with e1 _
  simp [Lit.wf, show IntKind.i64.min = -9223372036854775808 from by decide, show IntKind.i64.max = 9223372036854775807 from by decide] at hw
  exact ⟨a, e1, by omega⟩
theorem code1 {n : Nat} {c : Value} {y : DataW H × List MemPlace} (h : DataW.trod enc Tryz.prog w base spare held n 22 [c] = some y) : ∃ a : Int, c = .int .i64 a ∧ a ≤ 9223372036854775807 := by
  obtain ⟨a, e, _, hw⟩ := DataW.trod_int Tryz.underlying22 h
  injection e with e1 _
  simp [Lit.wf, show IntKind.i64.min = -9223372036854775808 from by decide, show IntKind.i64.max = 9223372036854775807 from by decide] at hw
  exact ⟨a, e1, by omega⟩
theorem bool1 {n : Nat} {c : Value} {y : DataW H × List MemPlace} (h : DataW.trod enc Tryz.prog w base spare held n 4 [c] = some y) : ∃ a : Bool, c = .bool a := by
  obtain ⟨a, e, _⟩ := DataW.trod_bool Tryz.underlying4 h
  injection e with e1 _
  exact ⟨a, e1⟩
set_option maxRecDepth 100000 in
theorem lk_of {fuel : Nat} {cs : List Value} {x : DataW H × List MemPlace} (h : DataW.trod enc Tryz.prog w base spare held fuel 54 cs = some x) : ∃ e : Lk, cs = [.int .i64 e.k, .int .i64 e.l, .int .i64 e.f] := by
  obtain ⟨xs, n, _, _, hl, hxl, hf⟩ := DataW.trod_struct Tryz.underlying54 h
  rw [cells_l] at hl
  obtain ⟨c0, c1, c2, rfl⟩ := list3 hl
  have hx : xs.length = 3 := hxl
  have f0 := (hf 0 _ rfl).trans (get_some (show 0 < xs.length from by omega))
  change DataW.trod enc Tryz.prog w base spare held _ 3 (List.take (Tryz.prog.cellsOf 3) (List.drop 0 [c0, c1, c2])) = _ at f0
  simp only [cells_i, List.drop, List.take] at f0
  have f1 := (hf 1 _ rfl).trans (get_some (show 1 < xs.length from by omega))
  change DataW.trod enc Tryz.prog w base spare held _ 3 (List.take (Tryz.prog.cellsOf 3) (List.drop 1 [c0, c1, c2])) = _ at f1
  simp only [cells_i, List.drop, List.take] at f1
  have f2 := (hf 2 _ rfl).trans (get_some (show 2 < xs.length from by omega))
  change DataW.trod enc Tryz.prog w base spare held _ 3 (List.take (Tryz.prog.cellsOf 3) (List.drop 2 [c0, c1, c2])) = _ at f2
  simp only [cells_i, List.drop, List.take] at f2
  obtain ⟨a0, rfl, _⟩ := int1 f0
  obtain ⟨a1, rfl, _⟩ := int1 f1
  obtain ⟨a2, rfl, _⟩ := int1 f2
  exact ⟨⟨a0, a1, a2⟩, rfl⟩
set_option maxRecDepth 100000 in
theorem rec_of {fuel : Nat} {cs : List Value} {x : DataW H × List MemPlace} (h : DataW.trod enc Tryz.prog w base spare held fuel 24 cs = some x) : ∃ r0 r1 r2 r3 r4 r5 : Int, cs = [.int .i64 r0, .int .i64 r1, .int .i64 r2, .int .i64 r3, .int .i64 r4, .int .i64 r5] := by
  obtain ⟨xs, n, _, _, hl, hxl, hf⟩ := DataW.trod_struct Tryz.underlying24 h
  rw [cells_r] at hl
  obtain ⟨c0, c1, c2, c3, c4, c5, rfl⟩ := list6 hl
  have hx : xs.length = 6 := hxl
  have f0 := (hf 0 _ rfl).trans (get_some (show 0 < xs.length from by omega))
  change DataW.trod enc Tryz.prog w base spare held _ 3 (List.take (Tryz.prog.cellsOf 3) (List.drop 0 [c0, c1, c2, c3, c4, c5])) = _ at f0
  simp only [cells_i, List.drop, List.take] at f0
  have f1 := (hf 1 _ rfl).trans (get_some (show 1 < xs.length from by omega))
  change DataW.trod enc Tryz.prog w base spare held _ 3 (List.take (Tryz.prog.cellsOf 3) (List.drop 1 [c0, c1, c2, c3, c4, c5])) = _ at f1
  simp only [cells_i, List.drop, List.take] at f1
  have f2 := (hf 2 _ rfl).trans (get_some (show 2 < xs.length from by omega))
  change DataW.trod enc Tryz.prog w base spare held _ 3 (List.take (Tryz.prog.cellsOf 3) (List.drop 2 [c0, c1, c2, c3, c4, c5])) = _ at f2
  simp only [cells_i, List.drop, List.take] at f2
  have f3 := (hf 3 _ rfl).trans (get_some (show 3 < xs.length from by omega))
  change DataW.trod enc Tryz.prog w base spare held _ 3 (List.take (Tryz.prog.cellsOf 3) (List.drop 3 [c0, c1, c2, c3, c4, c5])) = _ at f3
  simp only [cells_i, List.drop, List.take] at f3
  have f4 := (hf 4 _ rfl).trans (get_some (show 4 < xs.length from by omega))
  change DataW.trod enc Tryz.prog w base spare held _ 3 (List.take (Tryz.prog.cellsOf 3) (List.drop 4 [c0, c1, c2, c3, c4, c5])) = _ at f4
  simp only [cells_i, List.drop, List.take] at f4
  have f5 := (hf 5 _ rfl).trans (get_some (show 5 < xs.length from by omega))
  change DataW.trod enc Tryz.prog w base spare held _ 3 (List.take (Tryz.prog.cellsOf 3) (List.drop 5 [c0, c1, c2, c3, c4, c5])) = _ at f5
  simp only [cells_i, List.drop, List.take] at f5
  obtain ⟨a0, rfl, _⟩ := int1 f0
  obtain ⟨a1, rfl, _⟩ := int1 f1
  obtain ⟨a2, rfl, _⟩ := int1 f2
  obtain ⟨a3, rfl, _⟩ := int1 f3
  obtain ⟨a4, rfl, _⟩ := int1 f4
  obtain ⟨a5, rfl, _⟩ := int1 f5
  exact ⟨a0, a1, a2, a3, a4, a5, rfl⟩
theorem looks_of {fuel : Nat} {c : Value} {x : DataW H × List MemPlace} (h : DataW.trod enc Tryz.prog w base spare held fuel 25 [c] = some x) (hw : ∀ n ∈ DataW.weights Tryz.prog 25 x.1, n ≤ reachBytes) : ∃ (A : Option Addr) (L : List Lk) (cap : Nat), c = .slice A L.length cap ∧ LkAt A L w ∧ L.length ≤ 140737488355328 := by
  rcases DataW.trod_slice Tryz.underlying25 h with ⟨hc, _⟩ | ⟨a, len, cap, elems, rest, n, _, hc, hx, _, _, _, hl, he, _⟩
  · injection hc with hc _
    exact ⟨none, [], 0, hc, (fun h0 => absurd h0 (by simp)), by simp⟩
  · injection hc with hc _
    have key : ∀ i, i < len → ∃ e : Lk, w.cell? (a.add (i * 3)) = some (.int .i64 e.k) ∧ w.cell? (a.add (i * 3 + 1)) = some (.int .i64 e.l) ∧ w.cell? (a.add (i * 3 + 2)) = some (.int .i64 e.f) := by
      intro i hi
      have h1 := he i hi
      rw [cells_l, List.getElem?_eq_getElem (by omega)] at h1
      obtain ⟨cs', hcs, ht'⟩ := Option.bind_eq_some_iff.1 h1
      obtain ⟨e, rfl⟩ := lk_of ht'
      obtain ⟨_, hcl, hat⟩ := World.cells?_some hcs
      have g0 := hat 0 (by decide)
      have g1 := hat 1 (by decide)
      have g2 := hat 2 (by decide)
      rw [Go.Deep.add_add] at g0 g1 g2
      exact ⟨e, g0, g1, g2⟩
    have hlen : len * 24 ≤ reachBytes := by
      have h2 := hw ((elems.length + rest.length) * 24) (by
        rw [hx]
        simp [DataW.weights, Tryz.underlying25, bytes_l])
      rw [hl] at h2
      have h3 : len * 24 ≤ (len + rest.length) * 24 := Nat.mul_le_mul_right 24 (Nat.le_add_right _ _)
      omega
    have hr := reachBytes_lt
    have h47 : (2 : Nat) ^ 47 = 140737488355328 := by decide
    obtain ⟨L, hL, hLL⟩ : ∃ L : List Lk, L.length = len ∧ ∀ (i : Nat) (e : Lk), L[i]? = some e → w.cell? (a.add (i * 3)) = some (.int .i64 e.k) ∧ w.cell? (a.add (i * 3 + 1)) = some (.int .i64 e.l) ∧ w.cell? (a.add (i * 3 + 2)) = some (.int .i64 e.f) := by
      refine ⟨(List.range len).map fun i => if hi : i < len then Classical.choose (key i hi) else ⟨0, 0, 0⟩, by simp, fun i e hi => ?_⟩
      rw [List.getElem?_map] at hi
      obtain ⟨j, hj, he2⟩ := Option.map_eq_some_iff.1 hi
      obtain ⟨hjl, hje⟩ := List.getElem?_eq_some_iff.1 hj
      rw [List.length_range] at hjl
      rw [List.getElem_range] at hje
      subst hje
      rw [dif_pos hjl] at he2
      have := Classical.choose_spec (key i hjl)
      rw [he2] at this
      exact this
    refine ⟨some a, L, cap, by rw [hc, hL], (fun h0 => ⟨a, rfl, ?_, hLL⟩), by rw [hL]; omega⟩
    have := cell_lt (hLL 0 L[0] (List.getElem?_eq_getElem h0)).1
    rw [block_of_add] at this
    exact this
set_option maxRecDepth 100000 in
set_option maxHeartbeats 4000000 in
theorem reply_of {fuel : Nat} {cs : List Value} {x : DataW H × List MemPlace} (h : DataW.trod enc Tryz.prog w base spare held fuel 27 cs = some x) (hw : ∀ n ∈ DataW.weights Tryz.prog 27 x.1, n ≤ reachBytes) : ∃ (k cd t i c : Int) (ask : Bool) (r0 r1 r2 r3 r4 r5 : Int) (L : List Lk) (A : Option Addr) (cap : Nat), cs = [.int .i64 k, .int .i64 cd, .int .i64 t, .int .i64 i, .int .i64 c, .bool ask, .int .i64 r0, .int .i64 r1, .int .i64 r2, .int .i64 r3, .int .i64 r4, .int .i64 r5, .slice A L.length cap] ∧ cd ≤ 9223372036854775807 ∧ L.length ≤ 140737488355328 ∧ LkAt A L w := by
  obtain ⟨xs, n, _, hx1, hl, hxl, hf⟩ := DataW.trod_struct Tryz.underlying27 h
  rw [cells_rr] at hl
  obtain ⟨c0, c1, c2, c3, c4, c5, c6, c7, c8, c9, c10, c11, c12, rfl⟩ := list13' hl
  have hx : xs.length = 8 := hxl
  have f0 := (hf 0 _ rfl).trans (get_some (show 0 < xs.length from by omega))
  change DataW.trod enc Tryz.prog w base spare held _ 3 (List.take (Tryz.prog.cellsOf 3) (List.drop 0 [c0, c1, c2, c3, c4, c5, c6, c7, c8, c9, c10, c11, c12])) = _ at f0
  simp only [cells_i, List.drop, List.take] at f0
  have f1 := (hf 1 _ rfl).trans (get_some (show 1 < xs.length from by omega))
  change DataW.trod enc Tryz.prog w base spare held _ 22 (List.take (Tryz.prog.cellsOf 22) (List.drop 1 [c0, c1, c2, c3, c4, c5, c6, c7, c8, c9, c10, c11, c12])) = _ at f1
  simp only [cells_c, List.drop, List.take] at f1
  have f2 := (hf 2 _ rfl).trans (get_some (show 2 < xs.length from by omega))
  change DataW.trod enc Tryz.prog w base spare held _ 3 (List.take (Tryz.prog.cellsOf 3) (List.drop 2 [c0, c1, c2, c3, c4, c5, c6, c7, c8, c9, c10, c11, c12])) = _ at f2
  simp only [cells_i, List.drop, List.take] at f2
  have f3 := (hf 3 _ rfl).trans (get_some (show 3 < xs.length from by omega))
  change DataW.trod enc Tryz.prog w base spare held _ 3 (List.take (Tryz.prog.cellsOf 3) (List.drop 3 [c0, c1, c2, c3, c4, c5, c6, c7, c8, c9, c10, c11, c12])) = _ at f3
  simp only [cells_i, List.drop, List.take] at f3
  have f4 := (hf 4 _ rfl).trans (get_some (show 4 < xs.length from by omega))
  change DataW.trod enc Tryz.prog w base spare held _ 3 (List.take (Tryz.prog.cellsOf 3) (List.drop 4 [c0, c1, c2, c3, c4, c5, c6, c7, c8, c9, c10, c11, c12])) = _ at f4
  simp only [cells_i, List.drop, List.take] at f4
  have f5 := (hf 5 _ rfl).trans (get_some (show 5 < xs.length from by omega))
  change DataW.trod enc Tryz.prog w base spare held _ 4 (List.take (Tryz.prog.cellsOf 4) (List.drop 5 [c0, c1, c2, c3, c4, c5, c6, c7, c8, c9, c10, c11, c12])) = _ at f5
  simp only [cells_b, List.drop, List.take] at f5
  have f6 := (hf 6 _ rfl).trans (get_some (show 6 < xs.length from by omega))
  change DataW.trod enc Tryz.prog w base spare held _ 24 (List.take (Tryz.prog.cellsOf 24) (List.drop 6 [c0, c1, c2, c3, c4, c5, c6, c7, c8, c9, c10, c11, c12])) = _ at f6
  simp only [cells_r, List.drop, List.take] at f6
  have f7 := (hf 7 _ rfl).trans (get_some (show 7 < xs.length from by omega))
  change DataW.trod enc Tryz.prog w base spare held _ 25 (List.take (Tryz.prog.cellsOf 25) (List.drop 12 [c0, c1, c2, c3, c4, c5, c6, c7, c8, c9, c10, c11, c12])) = _ at f7
  simp only [cells_ls, List.drop, List.take] at f7
  obtain ⟨a0, rfl, w0⟩ := int1 f0
  obtain ⟨a1, rfl, w1⟩ := code1 f1
  obtain ⟨a2, rfl, w2⟩ := int1 f2
  obtain ⟨a3, rfl, w3⟩ := int1 f3
  obtain ⟨a4, rfl, w4⟩ := int1 f4
  obtain ⟨a5, rfl⟩ := bool1 f5
  obtain ⟨r0, r1, r2, r3, r4, r5, hr⟩ := rec_of f6
  obtain ⟨rfl, rfl, rfl, rfl, rfl, rfl⟩ : c6 = .int .i64 r0 ∧ c7 = .int .i64 r1 ∧ c8 = .int .i64 r2 ∧ c9 = .int .i64 r3 ∧ c10 = .int .i64 r4 ∧ c11 = .int .i64 r5 := by simpa using hr
  obtain ⟨A, L, cap, rfl, hA, hL⟩ := looks_of f7 (fun m hm => hw m (by
    rw [hx1]
    simp only [DataW.weights, Tryz.underlying27]
    exact DataW.weights_mem_each (j := 7) (t := 25) (d := (xs[7]'(by omega)).1) rfl (by rw [List.getElem?_map, List.getElem?_eq_getElem (by omega)]; rfl) m hm))
  exact ⟨a0, a1, a2, a3, a4, a5, r0, r1, r2, r3, r4, r5, L, A, cap, rfl, w1, hL, hA⟩
set_option maxRecDepth 100000 in
theorem open_reply {r : Reach} {b0 : Nat} {v : Value} {d : DataW H} {p : List MemPlace} (hv : Value.okWide Tryz.prog w r b0 27 v) (h : DataW.Trod enc Tryz.prog w base (fun _ => true) held 27 v d p) (hw : ∀ n ∈ DataW.weights Tryz.prog 27 d, n ≤ reachBytes) : ∃ (k cd t i c : Int) (ask : Bool) (r0 r1 r2 r3 r4 r5 : Int) (L : List Lk) (A : Option Addr) (cap : Nat), v = .agg (List.toArray [.int .i64 k, .int .i64 cd, .int .i64 t, .int .i64 i, .int .i64 c, .bool ask, .int .i64 r0, .int .i64 r1, .int .i64 r2, .int .i64 r3, .int .i64 r4, .int .i64 r5, .slice A L.length cap]) ∧ cd ≤ 9223372036854775807 ∧ L.length ≤ 140737488355328 ∧ LkAt A L w := by
  obtain ⟨cs, rfl, _⟩ := okWide_struct Tryz.underlying27 hv
  obtain ⟨fuel, hf⟩ := h
  obtain ⟨k, cd, t, i, c, ask, r0, r1, r2, r3, r4, r5, L, A, cap, e, h1, h2, h3⟩ := reply_of hf hw
  refine ⟨k, cd, t, i, c, ask, r0, r1, r2, r3, r4, r5, L, A, cap, ?_, h1, h2, h3⟩
  obtain ⟨l⟩ := cs
  have e2 : l = [.int .i64 k, .int .i64 cd, .int .i64 t, .int .i64 i, .int .i64 c, .bool ask, .int .i64 r0, .int .i64 r1, .int .i64 r2, .int .i64 r3, .int .i64 r4, .int .i64 r5, .slice A L.length cap] := e
  rw [e2]
end
end

end Go.Proofs.YtinciphhoieonaaGreatDoor

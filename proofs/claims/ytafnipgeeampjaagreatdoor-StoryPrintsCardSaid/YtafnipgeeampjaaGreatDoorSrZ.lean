/-
  Lines as a parameter.
-/
import Derived.Test.YtafnipgeeampjaaGreatDoorRows
import Derived.Test.YtafnipgeeampjaaGreatDoorKit
import Derived.Test.YtafnipgeeampjaaGreatDoorApp
import Derived.Test.YtafnipgeeampjaaGreatDoorQuiet
import Derived.WalkKit
import Derived.ProofKit
import Derived.OpenShut
import Derived.ShutString
import Derived.Below
import Derived.Outline
import Derived.WalkLawsBesides
import Derived.WalkSpells
import Derived.Handy
import Derived.Deep.QuietTactic
import Derived.BigQuiet
import Derived.RegionTactic
import Derived.ChangeAlike
import Derived.Lib.Hide
import Derived.Laws.Rows
import Derived.Laws.Tables
import Derived.Laws.CopyOwn
import Derived.Laws.MakeOwn
import Derived.Laws.Entries
import Derived.Laws.OwnMore
import Derived.Deep.WholeRow
import Derived.Deep.LoopGhost
import Derived.Deep.AppendLies
import Derived.Deep.Draws
import Derived.Maps.AppendAt
import Derived.OwnWalk
import Derived.Deep.RegionHeld3
import Derived.Deep.Cut
import Derived.Deep.CutRange
import Derived.Deep.DeepCutAuto
import Derived.Deep.CutBlock
import Derived.Lib.SliceRun
import Derived.IntWalk
import Derived.Laws.Strings
import Derived.Lib.Bytealg
import Derived.Lib.Strings
import Derived.Laws.Externs
import Derived.Test.YtafnipgeeampjaaGreatDoorSrL
import Derived.Deep.Strs
import Derived.ChangeAt
namespace Go.Proofs.YtafnipgeeampjaaGreatDoor
open Go.ChangeShapes Go.WideShapes Go.ChangeAt Go.RowKit
section
open Go.Deep
theorem weightsAll_mem {H : Type} {P : Program} {e : TypeId} : ∀ {l : List (DataW H)} {d : DataW H}, d ∈ l → ∀ n ∈ d.weights P e, n ∈ DataW.weightsAll P e l
  | [], _, h => by cases h
  | x :: r, d, h => fun n hn => by
    simp only [DataW.weightsAll, List.mem_append]
    rcases List.mem_cons.1 h with rfl | h
    · exact Or.inl hn
    · exact Or.inr (weightsAll_mem h n hn)
theorem cells_s : Tryz.prog.cellsOf 9 = 1 := by kernel_rfl
theorem bytes_s : Tryz.prog.bytesOf 9 = 16 := by kernel_rfl
theorem cell_lt {w : World} {a : Addr} {v : Value} (h : w.cell? a = some v) : a.block < w.heap.size := by
  rcases Nat.lt_or_ge a.block w.heap.size with hlt | hge
  · exact hlt
  · have e : w.heap[a.block]? = none := Array.getElem?_eq_none hge
    simp [World.cell?, e] at h
section
variable {H : Type} {enc : TypeId × Value → H} {w : World} {base : Nat} {held : Bool}
set_option maxRecDepth 100000 in
/-- Lines as a parameter. -/
theorem open_lines {r : Reach} {b0 : Nat} {v : Value} {d : DataW H} {p : List MemPlace} (hv : Value.okWide Tryz.prog w r b0 22 v) (h : DataW.Trod enc Tryz.prog w base (fun _ => true) held 22 v d p) (hw : ∀ n ∈ DataW.weights Tryz.prog 22 d, n ≤ reachBytes) : ∃ (A : Option Addr) (L : List (List UInt8)) (cap : Nat), v = .slice A L.length cap ∧ Reads w w.heap.size 1 A L.length (stc L) ∧ L.length ≤ 140737488355328 ∧ ∀ s ∈ L, s.length ≤ 140737488355328 := by
  obtain ⟨A, len, cap, rfl⟩ := okWide_slice Tryz.underlying22 hv
  obtain ⟨fuel, hf⟩ := h
  have hr := reachBytes_lt
  have h47 : (2 : Nat) ^ 47 = 140737488355328 := by decide
  rcases open_strs Tryz.underlying22 Tryz.underlying9 cells_s hf with ⟨hcs, _⟩ | ⟨x, l, c, m, Sx, hcs, _, hl, _, hm, hx, hcell⟩
  · simp [Value.cells] at hcs
    obtain ⟨rfl, rfl, rfl⟩ := hcs
    exact ⟨none, [], 0, rfl, ⟨rfl, fun h0 => absurd h0 (by simp)⟩, by simp, by simp⟩
  · simp [Value.cells] at hcs
    obtain ⟨rfl, rfl, rfl⟩ := hcs
    have hx1 : d = .slice ((List.range len).map fun i => .lit (.string (Sx i).data.toList)) ((List.range (m - len)).map fun j => .lit (.string (Sx (len + j)).data.toList)) := by
      have := congrArg Prod.fst hx
      exact this
    have hm' : len ≤ m := by rw [if_pos rfl] at hm; omega
    obtain ⟨L, hL⟩ : ∃ L, L = (List.range len).map fun i => (Sx i).data.toList := ⟨_, rfl⟩
    have hLl : L.length = len := by rw [hL]; simp
    have hget : ∀ i, i < len → L[i]? = some (Sx i).data.toList := fun i hi => by rw [hL, List.getElem?_map, List.getElem?_range hi]; rfl
    refine ⟨some x, L, cap, by rw [hLl], ⟨by rw [show (stc L).length = L.length by simp [stc]]; omega, fun h0 => ⟨x, rfl, ?_, fun j u hj => ?_⟩⟩, ?_, fun s hs => ?_⟩
    · have := cell_lt (hcell 0 (by omega)).1
      rwa [block_of_add] at this
    · have hjl : j < len := by
        have := (List.getElem?_eq_some_iff.1 hj).1
        rw [show (stc L).length = L.length by simp [stc]] at this
        omega
      unfold stc at hj
      rw [List.getElem?_map, hget j hjl] at hj
      simp only [Option.map_some, Option.some.injEq] at hj
      rw [← hj, Bs_of]
      exact (hcell j (by omega)).1
    · have h2 := hw ((len + (m - len)) * 16) (by
        rw [hx1]
        simp [DataW.weights, Tryz.underlying22, bytes_s])
      omega
    · rw [hL] at hs
      obtain ⟨i, hi, rfl⟩ := List.mem_map.1 hs
      have h2 := hw (Sx i).data.toList.length (by
        rw [hx1]
        simp only [DataW.weights, Tryz.underlying22]
        refine List.mem_cons_of_mem _ (List.mem_append_left _ (weightsAll_mem (List.mem_map.2 ⟨i, hi, rfl⟩) _ ?_))
        simp [DataW.weights])
      omega
end
end

end Go.Proofs.YtafnipgeeampjaaGreatDoor

/-
  A line's words, by strings.Split.
-/
import Derived.Test.YtinciphhoieonaaGreatDoorRows
import Derived.Test.YtinciphhoieonaaGreatDoorKit
import Derived.Test.YtinciphhoieonaaGreatDoorApp
import Derived.Test.YtinciphhoieonaaGreatDoorQuiet
import Derived.WalkKit
import Derived.ProofKit
import Derived.OpenShut
import Derived.ShutString
import Derived.Below
import Derived.Outline
import Derived.WalkLawsBesides
import Derived.WalkSpells
import Derived.Handy
import Derived.Deep.QuietTactic
import Derived.BigQuiet
import Derived.RegionTactic
import Derived.ChangeAlike
import Derived.Lib.Hide
import Derived.Laws.Rows
import Derived.Laws.Tables
import Derived.Laws.CopyOwn
import Derived.Laws.MakeOwn
import Derived.Laws.Entries
import Derived.Laws.OwnMore
import Derived.Deep.WholeRow
import Derived.Deep.LoopGhost
import Derived.Deep.AppendLies
import Derived.Deep.Draws
import Derived.Maps.AppendAt
import Derived.OwnWalk
import Derived.Deep.RegionHeld3
import Derived.Deep.Cut
import Derived.Deep.CutRange
import Derived.Deep.DeepCutAuto
import Derived.Deep.CutBlock
import Derived.Lib.SliceRun
import Derived.IntWalk
import Derived.Laws.Strings
import Derived.Lib.Bytealg
import Derived.Lib.Strings
import Derived.Laws.Externs
import Derived.Test.YtinciphhoieonaaGreatDoorAnN
import Derived.Test.YtinciphhoieonaaGreatDoorShelf
import Derived.Lib.SplitLaws
import Derived.Shelf.Strings.Split
namespace Go.Proofs.YtinciphhoieonaaGreatDoor
open Go.ChangeShapes Go.WideShapes Go.ChangeAt Go.RowKit
theorem index_word : ∀ (x W : List UInt8), (∀ b ∈ x, b ≠ 32) → Lib.index (x ++ 32 :: W) [32] = (x.length : Int)
  | [], W, _ => by
    show Lib.index (32 :: W) [32] = 0
    rw [Lib.index]
    simp [List.isPrefixOf]
  | a :: x, W, h => by
    have ha : a ≠ 32 := h a (List.mem_cons_self ..)
    have ih := index_word x W (fun b hb => h b (List.mem_cons_of_mem _ hb))
    rw [List.cons_append, Lib.index]
    have hp : ([32] : List UInt8).isPrefixOf (a :: (x ++ 32 :: W)) = false := by simp [List.isPrefixOf, Ne.symm ha]
    have hm : (Lib.index (x ++ 32 :: W) [32] == -1) = false := beq_eq_false_iff_ne.2 (by omega)
    rw [hp, hm, ih]
    simp
theorem jt_cons (x : List UInt8) (L : List (List UInt8)) : jt (x :: L) = 32 :: (x ++ jt L) := rfl
theorem splitK_jl : ∀ (L : List (List UInt8)) (x : List UInt8), nbl (x :: L) → Lib.splitK [32] 0 L.length (x ++ jt L) = x :: L
  | [], x, _ => by
    show [x ++ jt []] = [x]
    rw [show jt [] = [] from rfl, List.append_nil]
  | y :: L, x, h => by
    have hx := index_word x (y ++ jt L) (h x (List.mem_cons_self ..))
    rw [jt_cons, List.length_cons, Lib.splitK]
    have hm : (Lib.index (x ++ 32 :: (y ++ jt L)) [32] == -1) = false := beq_eq_false_iff_ne.2 (by omega)
    rw [hm, hx]
    have e1 : (x ++ 32 :: (y ++ jt L)).take (((x.length : Nat) : Int).toNat + 0) = x := by
      rw [Int.toNat_natCast, Nat.add_zero, List.take_left']
      rfl
    have e2 : (x ++ 32 :: (y ++ jt L)).drop (((x.length : Nat) : Int).toNat + [(32 : UInt8)].length) = y ++ jt L := by
      rw [Int.toNat_natCast, show [(32 : UInt8)].length = 1 from rfl, ← List.drop_drop, List.drop_left']
      · rfl
      · rfl
    rw [e1, e2, splitK_jl L y (fun z hz => h z (List.mem_cons_of_mem _ hz))]
    simp
theorem count_nb (x : List UInt8) (h : ∀ b ∈ x, b ≠ 32) : x.count 32 = 0 := List.count_eq_zero.2 fun hm => h 32 hm rfl
theorem count_jt : ∀ (L : List (List UInt8)), nbl L → (jt L).count 32 = L.length
  | [], _ => rfl
  | x :: L, h => by
    rw [jt_cons, List.count_cons, List.count_append, count_nb x (h x (List.mem_cons_self ..)), count_jt L (fun z hz => h z (List.mem_cons_of_mem _ hz))]
    simp
theorem splitB_jl (x : List UInt8) (L : List (List UInt8)) (h : nbl (x :: L)) : Lib.countB (Bs (jl (x :: L))) ⟨#[32]⟩ = L.length ∧ Lib.splitB ⟨#[32]⟩ 0 L.length (Bs (jl (x :: L))) = (x :: L).map Bs := by
  refine ⟨?_, ?_⟩
  · show Lib.count (jl (x :: L)) [32] = _
    rw [Lib.count_one, jl_cons, List.count_append, count_nb x (h x (List.mem_cons_self ..)), count_jt L (fun z hz => h z (List.mem_cons_of_mem _ hz)), Nat.zero_add]
  · have e := Lib.splitB_data ⟨#[32]⟩ 0 L.length (Bs (jl (x :: L)))
    rw [show (Bs (jl (x :: L))).data.toList = jl (x :: L) from rfl, show (⟨#[32]⟩ : ByteArray).data.toList = [32] from rfl, jl_cons, splitK_jl L x h] at e
    have e2 : ∀ l : List ByteArray, l = (l.map (·.data.toList)).map Bs := fun l => by
      rw [List.map_map]
      have : Bs ∘ (·.data.toList) = id := funext fun b => rfl
      rw [this, List.map_id]
    rw [e2 (Lib.splitB ⟨#[32]⟩ 0 L.length (Bs (jl (x :: L)))), jl_cons, e]
theorem infoS9 : (Tryz.prog.info? (lays146_ren.t 9)).map (fun i => (i.zero, i.size, i.bytes)) = some (some (.string ByteArray.empty), 1, 16) := by kernel_rfl
/-- bytealg.MaxLen's cell is a number. -/
def Ml (w : World) : Prop := 3 < w.heap.size ∧ ∃ m : Int, w.cell? ⟨3, 0, none⟩ = some (.int .i64 m)
theorem Ml.below {w w' : World} (h : Ml w) (hb : Below w.heap.size w w') : Ml w' := by
  obtain ⟨h1, m, h2⟩ := h
  exact ⟨Nat.lt_of_lt_of_le h1 hb.size, m, (hb.cell (p := ⟨3, 0, none⟩) h1).trans h2⟩
theorem split_is (x : List UInt8) (L : List (List UInt8)) (h : nbl (x :: L)) (hl : (jl (x :: L)).length < 4000000000) (w : World) (hm : Ml w) : Calls Tryz.prog 46 #[.string (Bs (jl (x :: L))), .string ⟨#[32]⟩] w fun e w' => e = .returned (.slice (some ⟨w.heap.size, 0, none⟩) (x :: L).length (x :: L).length) ∧ w' = w.alloc (.cells ((x :: L).map fun l => Value.string (Bs l)).toArray 9) := by
  obtain ⟨_, m, hm⟩ := hm
  have c := Any.strings_Split lays146 infoS9 (Bs (jl (x :: L))) ⟨#[32]⟩ m w (by rw [Bs_size]; omega) hm (by decide)
  obtain ⟨e1, e2⟩ := splitB_jl x L h
  rw [e1, e2, List.map_map] at c
  exact c

end Go.Proofs.YtinciphhoieonaaGreatDoor

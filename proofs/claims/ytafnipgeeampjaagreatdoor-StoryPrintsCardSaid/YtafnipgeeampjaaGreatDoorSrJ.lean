/-
  strconv.Itoa.
-/
import Derived.Test.YtafnipgeeampjaaGreatDoorRows
import Derived.Test.YtafnipgeeampjaaGreatDoorKit
import Derived.Test.YtafnipgeeampjaaGreatDoorApp
import Derived.Test.YtafnipgeeampjaaGreatDoorQuiet
import Derived.WalkKit
import Derived.ProofKit
import Derived.OpenShut
import Derived.ShutString
import Derived.Below
import Derived.Outline
import Derived.WalkLawsBesides
import Derived.WalkSpells
import Derived.Handy
import Derived.Deep.QuietTactic
import Derived.BigQuiet
import Derived.RegionTactic
import Derived.ChangeAlike
import Derived.Lib.Hide
import Derived.Laws.Rows
import Derived.Laws.Tables
import Derived.Laws.CopyOwn
import Derived.Laws.MakeOwn
import Derived.Laws.Entries
import Derived.Laws.OwnMore
import Derived.Deep.WholeRow
import Derived.Deep.LoopGhost
import Derived.Deep.AppendLies
import Derived.Deep.Draws
import Derived.Maps.AppendAt
import Derived.OwnWalk
import Derived.Deep.RegionHeld3
import Derived.Deep.Cut
import Derived.Deep.CutRange
import Derived.Deep.DeepCutAuto
import Derived.Deep.CutBlock
import Derived.Lib.SliceRun
import Derived.IntWalk
import Derived.Laws.Strings
import Derived.Lib.Bytealg
import Derived.Lib.Strings
import Derived.Laws.Externs
import Derived.Test.YtafnipgeeampjaaGreatDoorSrM
import Derived.Test.YtafnipgeeampjaaGreatDoorSrK
import Derived.Test.YtafnipgeeampjaaGreatDoorShelf
import Derived.Lib.Join
import Derived.Lib.LaidTab
import Derived.Lib.ItoaNum
namespace Go.Proofs.YtafnipgeeampjaaGreatDoor
open Go.ChangeShapes Go.WideShapes Go.ChangeAt Go.RowKit
theorem dcl_dec (n : Nat) : dcl n = Lib.decDigits n := by
  induction n using Nat.strongRecOn with
  | ind n ih =>
    by_cases h : n < 10
    · rw [dcl_small h, Lib.decDigits, dif_pos h]; rfl
    · rw [dcl_big h, Lib.decDigits, dif_neg h, ih _ (by omega)]; rfl
/-- The table of powers of ten, as strconv's own initialiser lays it. -/
structure Tb (w : World) : Prop where
  tab : Lib.TabIs Tryz.prog w "internal/strconv.uint64pow10" .u64 Lib.pow10Tab
  lt : 2 < w.heap.size
theorem Tb.below {w w' : World} (h : Tb w) (hb : Below w.heap.size w w') : Tb w' := by
  have hgn : Tryz.prog.globalNamed "internal/strconv.uint64pow10" = some 2 := by kernel_rfl
  refine ⟨?_, by have := hb.size; have := h.lt; omega⟩
  have ht := h.tab
  unfold Lib.TabIs World.var? at ht ⊢
  rw [hgn] at ht ⊢
  simp only [Option.bind_some] at ht ⊢
  rw [hb.block 2 h.lt]
  exact ht
theorem grow_bel (w : World) (k : Nat) (os : Array Obj) : Below w.heap.size w (Sort.grow (w.drewN k) os) :=
  ⟨rfl, rfl, rfl, by show w.heap.size ≤ (w.heap ++ os).size; rw [Array.size_append]; omega, fun k' hk' => by
    simp only [Sort.grow]
    rw [Array.getElem?_append_left (by exact hk')]
    rfl⟩
theorem itoa_is (n : Nat) (hn : n < 100000000) (w : World) (ht : Tb w) : Calls Tryz.prog 17 #[.int .i64 (n : Int)] w fun e w' => e = .returned (.string (Bs (dcl n))) ∧ Below w.heap.size w w' :=
  (Any.strconv_Itoa laysM171 (n : Int) (by omega) (by omega) w ht.tab).mono fun e w' ⟨h1, k, os, h2⟩ => by
    refine ⟨?_, by rw [h2]; exact grow_bel _ _ _⟩
    rw [h1, dcl_dec]
    have : Lib.itoa (n : Int) = Lib.decDigits n := by
      unfold Lib.itoa
      rw [if_neg (by omega), Int.toNat_natCast]
    rw [this]; rfl
theorem itl_dcI (x : Int) : Lib.itoa x = dcI x := by
  unfold Lib.itoa dcI
  by_cases h : x < 0
  · rw [if_pos h, if_pos h, dcl_dec]
  · rw [if_neg h, if_neg h, dcl_dec]
    congr 1
    omega
/-- strconv.Itoa at any number. -/
theorem itoa_int (x : Int) (h : -9223372036854775808 ≤ x ∧ x ≤ 9223372036854775807) (w : World) (ht : Tb w) : Calls Tryz.prog 17 #[.int .i64 x] w fun e w' => e = .returned (.string (Bs (dcI x))) ∧ Below w.heap.size w w' :=
  (Any.strconv_Itoa laysM171 x (by omega) (by omega) w ht.tab).mono fun e w' ⟨h1, k, os, h2⟩ => by
    refine ⟨?_, by rw [h2]; exact grow_bel _ _ _⟩
    rw [h1, itl_dcI]
    rfl

end Go.Proofs.YtafnipgeeampjaaGreatDoor

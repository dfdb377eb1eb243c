/-
  Names and numbers of the document's.
-/
import Derived.Test.YtinciphhoieonaaGreatDoorRows
import Derived.Test.YtinciphhoieonaaGreatDoorKit
import Derived.Test.YtinciphhoieonaaGreatDoorApp
import Derived.Test.YtinciphhoieonaaGreatDoorQuiet
import Derived.WalkKit
import Derived.ProofKit
import Derived.OpenShut
import Derived.ShutString
import Derived.Below
import Derived.Outline
import Derived.WalkLawsBesides
import Derived.WalkSpells
import Derived.Handy
import Derived.Deep.QuietTactic
import Derived.BigQuiet
import Derived.RegionTactic
import Derived.ChangeAlike
import Derived.Lib.Hide
import Derived.Laws.Rows
import Derived.Laws.Tables
import Derived.Laws.CopyOwn
import Derived.Laws.MakeOwn
import Derived.Laws.Entries
import Derived.Laws.OwnMore
import Derived.Deep.WholeRow
import Derived.Deep.LoopGhost
import Derived.Deep.AppendLies
import Derived.Deep.Draws
import Derived.Maps.AppendAt
import Derived.OwnWalk
import Derived.Deep.RegionHeld3
import Derived.Deep.Cut
import Derived.Deep.CutRange
import Derived.Deep.DeepCutAuto
import Derived.Deep.CutBlock
import Derived.Lib.SliceRun
import Derived.IntWalk
import Derived.Laws.Strings
import Derived.Lib.Bytealg
import Derived.Lib.Strings
import Derived.Laws.Externs
import Derived.Test.YtinciphhoieonaaGreatDoorAnI
import Derived.Test.YtinciphhoieonaaGreatDoorAnD
import Derived.BigRegion
import Derived.Deep.MidRow
namespace Go.Proofs.YtinciphhoieonaaGreatDoor
open Go.ChangeShapes Go.WideShapes Go.ChangeAt Go.RowKit
theorem decimal_nn (x : Int) (h : 0 ≤ x ∧ x ≤ 9223372036854775807) (w : World) : Calls Tryz.prog 30 #[.int .i64 x] w fun e w' => e = .returned (.string (Bs (dcl x.toNat))) ∧ Below w.heap.size w w' := by
  have := decimal_any x (by omega) h.2 w
  rwa [show itl x = dcl x.toNat by unfold itl; rw [if_neg (by omega)]] at this
theorem jl_snoc (x : List UInt8) (L : List (List UInt8)) (y : List UInt8) : jl (x :: (L ++ [y])) = jl (x :: L) ++ 32 :: y := by
  rw [jl_cons, jl_cons]
  unfold jt
  rw [List.flatMap_append, List.append_assoc]
  simp
theorem jl_app (x : List UInt8) (L M : List (List UInt8)) : jl (x :: (L ++ M)) = jl (x :: L) ++ jt M := by
  rw [jl_cons, jl_cons]
  unfold jt
  rw [List.flatMap_append, List.append_assoc]
theorem jl_two (x y : List UInt8) : jl [x, y] = x ++ 32 :: y := by
  rw [jl_cons]
  simp [jt]
theorem Bs_sp (a l : List UInt8) : Bs a ++ ⟨#[32]⟩ ++ Bs l = Bs (a ++ 32 :: l) := by
  rw [show (⟨#[32]⟩ : ByteArray) = Bs [32] from rfl, Bs_append, Bs_append]
  simp
theorem rel_1 (a : List UInt8) : Value.string (Bs a ++ (⟨#[32]⟩ : ByteArray) ++ (⟨#[115, 117, 98, 109, 105, 116]⟩ : ByteArray)) = Value.string (Bs (jl [a, vbl 1])) := by
  rw [jl_two, ← Bs_sp]
  rfl
theorem rel_2 (a : List UInt8) : Value.string (Bs a ++ (⟨#[32]⟩ : ByteArray) ++ (⟨#[99, 97, 110, 99, 101, 108]⟩ : ByteArray)) = Value.string (Bs (jl [a, vbl 2])) := by
  rw [jl_two, ← Bs_sp]
  rfl
theorem rel_3 (a : List UInt8) : Value.string (Bs a ++ (⟨#[32]⟩ : ByteArray) ++ (⟨#[112, 111, 108, 108]⟩ : ByteArray)) = Value.string (Bs (jl [a, vbl 3])) := by
  rw [jl_two, ← Bs_sp]
  rfl
theorem rel_4 (a : List UInt8) : Value.string (Bs a ++ (⟨#[32]⟩ : ByteArray) ++ (⟨#[118, 105, 101, 119]⟩ : ByteArray)) = Value.string (Bs (jl [a, vbl 4])) := by
  rw [jl_two, ← Bs_sp]
  rfl
theorem refrn_0 (w : World) : Calls Tryz.prog 31 #[.int .i64 0] w fun e w' => e = .returned (.string (Bs (rn 0))) ∧ Below w.heap.size w w' := by
  go_enter Tryz.func31, Tryz.ntmps31
  go_wp2_with fail
  go_ret
  exact ⟨rfl, by first | exact Below.refl _ _ | go_grown⟩
theorem refrn_1 (w : World) : Calls Tryz.prog 31 #[.int .i64 1] w fun e w' => e = .returned (.string (Bs (rn 1))) ∧ Below w.heap.size w w' := by
  go_enter Tryz.func31, Tryz.ntmps31
  go_wp2_with fail
  go_ret
  exact ⟨rfl, by first | exact Below.refl _ _ | go_grown⟩
theorem refrn_2 (w : World) : Calls Tryz.prog 31 #[.int .i64 2] w fun e w' => e = .returned (.string (Bs (rn 2))) ∧ Below w.heap.size w w' := by
  go_enter Tryz.func31, Tryz.ntmps31
  go_wp2_with fail
  go_ret
  exact ⟨rfl, by first | exact Below.refl _ _ | go_grown⟩
theorem refrn_3 (w : World) : Calls Tryz.prog 31 #[.int .i64 3] w fun e w' => e = .returned (.string (Bs (rn 3))) ∧ Below w.heap.size w w' := by
  go_enter Tryz.func31, Tryz.ntmps31
  go_wp2_with fail
  go_ret
  exact ⟨rfl, by first | exact Below.refl _ _ | go_grown⟩
theorem refrn_4 (w : World) : Calls Tryz.prog 31 #[.int .i64 4] w fun e w' => e = .returned (.string (Bs (rn 4))) ∧ Below w.heap.size w w' := by
  go_enter Tryz.func31, Tryz.ntmps31
  go_wp2_with fail
  go_ret
  exact ⟨rfl, by first | exact Below.refl _ _ | go_grown⟩
theorem refrn_5 (w : World) : Calls Tryz.prog 31 #[.int .i64 5] w fun e w' => e = .returned (.string (Bs (rn 5))) ∧ Below w.heap.size w w' := by
  go_enter Tryz.func31, Tryz.ntmps31
  go_wp2_with fail
  go_ret
  exact ⟨rfl, by first | exact Below.refl _ _ | go_grown⟩
theorem refln_0 (w : World) : Calls Tryz.prog 32 #[.int .i64 0] w fun e w' => e = .returned (.string (Bs (ln 0))) ∧ Below w.heap.size w w' := by
  go_enter Tryz.func32, Tryz.ntmps32
  go_wp2_with fail
  go_ret
  exact ⟨rfl, by first | exact Below.refl _ _ | go_grown⟩
theorem refln_1 (w : World) : Calls Tryz.prog 32 #[.int .i64 1] w fun e w' => e = .returned (.string (Bs (ln 1))) ∧ Below w.heap.size w w' := by
  go_enter Tryz.func32, Tryz.ntmps32
  go_wp2_with fail
  go_ret
  exact ⟨rfl, by first | exact Below.refl _ _ | go_grown⟩
theorem refln_5 (w : World) : Calls Tryz.prog 32 #[.int .i64 5] w fun e w' => e = .returned (.string (Bs (ln 5))) ∧ Below w.heap.size w w' := by
  go_enter Tryz.func32, Tryz.ntmps32
  go_wp2_with fail
  go_ret
  exact ⟨rfl, by first | exact Below.refl _ _ | go_grown⟩
theorem refln_6 (w : World) : Calls Tryz.prog 32 #[.int .i64 6] w fun e w' => e = .returned (.string (Bs (ln 6))) ∧ Below w.heap.size w w' := by
  go_enter Tryz.func32, Tryz.ntmps32
  go_wp2_with fail
  go_ret
  exact ⟨rfl, by first | exact Below.refl _ _ | go_grown⟩
theorem refln_7 (w : World) : Calls Tryz.prog 32 #[.int .i64 7] w fun e w' => e = .returned (.string (Bs (ln 7))) ∧ Below w.heap.size w w' := by
  go_enter Tryz.func32, Tryz.ntmps32
  go_wp2_with fail
  go_ret
  exact ⟨rfl, by first | exact Below.refl _ _ | go_grown⟩
theorem refln_8 (w : World) : Calls Tryz.prog 32 #[.int .i64 8] w fun e w' => e = .returned (.string (Bs (ln 8))) ∧ Below w.heap.size w w' := by
  go_enter Tryz.func32, Tryz.ntmps32
  go_wp2_with fail
  go_ret
  exact ⟨rfl, by first | exact Below.refl _ _ | go_grown⟩
theorem refrn_is (k : Int) (hk : 0 ≤ k ∧ k ≤ 5) (w : World) : Calls Tryz.prog 31 #[.int .i64 k] w fun e w' => e = .returned (.string (Bs (rn k))) ∧ Below w.heap.size w w' := by
  rcases (show k = 0 ∨ k = 1 ∨ k = 2 ∨ k = 3 ∨ k = 4 ∨ k = 5 by omega) with rfl | rfl | rfl | rfl | rfl | rfl
  · exact refrn_0 w
  · exact refrn_1 w
  · exact refrn_2 w
  · exact refrn_3 w
  · exact refrn_4 w
  · exact refrn_5 w
theorem refln_is (k : Int) (hk : k = 0 ∨ k = 1 ∨ k = 5 ∨ k = 6 ∨ k = 7 ∨ k = 8) (w : World) : Calls Tryz.prog 32 #[.int .i64 k] w fun e w' => e = .returned (.string (Bs (ln k))) ∧ Below w.heap.size w w' := by
  rcases hk with rfl | rfl | rfl | rfl | rfl | rfl
  · exact refln_0 w
  · exact refln_1 w
  · exact refln_5 w
  · exact refln_6 w
  · exact refln_7 w
  · exact refln_8 w

end Go.Proofs.YtinciphhoieonaaGreatDoor

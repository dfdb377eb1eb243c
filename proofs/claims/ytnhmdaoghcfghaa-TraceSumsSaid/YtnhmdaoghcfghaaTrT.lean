/-
  The abstract pool: the document's example, event by event.
-/
import Derived.Test.YtnhmdaoghcfghaaRows
import Derived.Test.YtnhmdaoghcfghaaKit
import Derived.Test.YtnhmdaoghcfghaaApp
import Derived.Test.YtnhmdaoghcfghaaQuiet
import Derived.Test.YtnhmdaoghcfghaaTrM
import Derived.Test.YtnhmdaoghcfghaaTrS
import Derived.Test.YtnhmdaoghcfghaaTrF
import Derived.Test.YtnhmdaoghcfghaaTrG
import Derived.Test.YtnhmdaoghcfghaaTrH
import Derived.Test.YtnhmdaoghcfghaaTrI
import Derived.Test.YtnhmdaoghcfghaaTrJ
import Derived.Test.YtnhmdaoghcfghaaTrK
import Derived.Test.YtnhmdaoghcfghaaTrL
import Derived.Test.YtnhmdaoghcfghaaTrN
import Derived.Test.YtnhmdaoghcfghaaTrO
import Derived.Test.YtnhmdaoghcfghaaTrP
import Derived.Test.YtnhmdaoghcfghaaTrQ
import Derived.Test.YtnhmdaoghcfghaaTrR
import Derived.WalkKit
import Derived.ProofKit
import Derived.OpenShut
import Derived.ShutString
import Derived.Below
import Derived.Outline
import Derived.WalkLawsBesides
import Derived.WalkSpells
import Derived.Handy
import Derived.Deep.QuietTactic
import Derived.BigQuiet
import Derived.RegionTactic
import Derived.ChangeAlike
import Derived.Lib.Hide
import Derived.Laws.Rows
import Derived.Laws.Tables
import Derived.Laws.CopyOwn
import Derived.Laws.MakeOwn
import Derived.Laws.Entries
import Derived.Laws.OwnMore
import Derived.Deep.WholeRow
import Derived.Deep.LoopGhost
import Derived.Deep.AppendLies
import Derived.Deep.Draws
import Derived.Maps.AppendAt
import Derived.OwnWalk
import Derived.Deep.RegionHeld3
import Derived.Deep.Cut
import Derived.Deep.CutRange
import Derived.Deep.DeepCutAuto
import Derived.Deep.CutBlock
import Derived.Lib.SliceRun
import Derived.IntWalk
namespace Go.Proofs.Ytnhmdaoghcfghaa
open Go.ChangeShapes Go.WideShapes Go.ChangeAt Go.RowKit
theorem inv1 : Inv 2 [⟨0, 1, 0, 0, 10, 1, 5, 5, 5, 0, false, false, 0⟩] := (Step.push (F := 2) (os := []) (e := ⟨1, 0, 1, 0, 0, 0, 0, 10, 1, 5, 5, 0, 0, 0⟩) ⟨0, 1, 0, 0, 10, 1, 5, 5, 5, 0, false, false, 0⟩ rfl rfl rfl rfl rfl rfl rfl ⟨by decide, by decide, by decide, by decide, by decide, by decide, by decide, by decide⟩ (fun i a h => by cases h)).inv (Inv.nil 2)
theorem one_of {o a : Ord} {i : Nat} (h : [o][i]? = some a) : i = 0 ∧ o = a := by
  match i, h with
  | 0, h => exact ⟨rfl, Option.some.inj h⟩
set_option maxRecDepth 100000 in
theorem do1 (Fx : Nat → Option Obj → Prop) (w wr : World) (B K : Nat) (v : Value) (h : MS Fx w wr B K 2 1 1 1 0 2 1 v [] 0) : Calls Try.prog 9 #[.pointer (some ⟨B, 0, none⟩), .agg #[.int .i64 1, .int .i64 0, .int .i64 1, .int .i64 0, .int .i64 0, .int .i64 0, .int .i64 0, .int .i64 10, .int .i64 1, .int .i64 5, .int .i64 5, .int .i64 0, .int .i64 0, .int .i64 0]] wr fun rr w' => rr = .returned .nilIface ∧ ∃ v', MS Fx w w' B K 2 1 1 1 0 2 1 v' [⟨0, 1, 0, 0, 10, 1, 5, 5, 5, 0, false, false, 0⟩] 0 :=
  do_ok Fx w wr B K 2 1 1 1 0 2 1 0 v [] [⟨0, 1, 0, 0, 10, 1, 5, 5, 5, 0, false, false, 0⟩] ⟨1, 0, 1, 0, 0, 0, 0, 10, 1, 5, 5, 0, 0, 0⟩ h (by decide) fun Fy wz hz => happen_submit Fy w wz B K 2 1 1 1 0 2 1 0 v [] [⟨0, 1, 0, 0, 10, 1, 5, 5, 5, 0, false, false, 0⟩] ⟨1, 0, 1, 0, 0, 0, 0, 10, 1, 5, 5, 0, 0, 0⟩ hz rfl fun wy hy =>
    submit_ok Fy w wy B K 2 1 1 1 0 2 1 0 v [] ⟨1, 0, 1, 0, 0, 0, 0, 10, 1, 5, 5, 0, 0, 0⟩ { z0 with c := 0, en := 8 } hy (by decide) (Inv.nil 2) (by decide) (by decide) (by decide) (.inr ⟨(fun k o ho => by cases ho), rfl⟩) (by decide) (by decide) (by decide) rfl
      (fun W => chk_11_0 2 1 1 1 0 2 1 0 10 1 5 5 W (by decide) (by decide) (by decide) (by decide) (by decide) (by decide) (by decide) (by decide) (by decide) (by decide))
set_option maxRecDepth 100000 in
theorem do2 (Fx : Nat → Option Obj → Prop) (w wr : World) (B K : Nat) (v : Value) (h : MS Fx w wr B K 2 1 1 1 0 2 1 v [⟨0, 1, 0, 0, 10, 1, 5, 5, 5, 0, false, false, 0⟩] 0) : Calls Try.prog 9 #[.pointer (some ⟨B, 0, none⟩), .agg #[.int .i64 1, .int .i64 1, .int .i64 1, .int .i64 0, .int .i64 0, .int .i64 0, .int .i64 1, .int .i64 8, .int .i64 1, .int .i64 5, .int .i64 3, .int .i64 0, .int .i64 0, .int .i64 0]] wr fun rr w' => rr = .returned .nilIface ∧ ∃ v', MS Fx w w' B K 2 1 1 1 0 2 1 v' [⟨0, 1, 0, 0, 10, 1, 5, 5, 5, 0, false, false, 0⟩, ⟨1, 1, 0, 1, 8, 1, 5, 3, 3, 0, false, false, 0⟩] 0 :=
  do_ok Fx w wr B K 2 1 1 1 0 2 1 0 v [⟨0, 1, 0, 0, 10, 1, 5, 5, 5, 0, false, false, 0⟩] [⟨0, 1, 0, 0, 10, 1, 5, 5, 5, 0, false, false, 0⟩, ⟨1, 1, 0, 1, 8, 1, 5, 3, 3, 0, false, false, 0⟩] ⟨1, 1, 1, 0, 0, 0, 1, 8, 1, 5, 3, 0, 0, 0⟩ h (by decide) fun Fy wz hz => happen_submit Fy w wz B K 2 1 1 1 0 2 1 0 v [⟨0, 1, 0, 0, 10, 1, 5, 5, 5, 0, false, false, 0⟩] [⟨0, 1, 0, 0, 10, 1, 5, 5, 5, 0, false, false, 0⟩, ⟨1, 1, 0, 1, 8, 1, 5, 3, 3, 0, false, false, 0⟩] ⟨1, 1, 1, 0, 0, 0, 1, 8, 1, 5, 3, 0, 0, 0⟩ hz rfl fun wy hy =>
    submit_ok Fy w wy B K 2 1 1 1 0 2 1 0 v [⟨0, 1, 0, 0, 10, 1, 5, 5, 5, 0, false, false, 0⟩] ⟨1, 1, 1, 0, 0, 0, 1, 8, 1, 5, 3, 0, 0, 0⟩ { z0 with c := 1, en := 8 } hy (by decide) inv1 (by decide) (by decide) (by decide) (.inr ⟨(fun k o ho => by obtain ⟨_, rfl⟩ := one_of ho; decide), rfl⟩) (by decide) (by decide) (by decide) rfl
      (fun W => chk_11_1 2 1 1 1 0 2 1 0 8 1 5 3 W (by decide) (by decide) (by decide) (by decide) (by decide) (by decide) (by decide) (by decide) (by decide) (by decide))
set_option maxRecDepth 100000 in
theorem do3 (Fx : Nat → Option Obj → Prop) (w wr : World) (B K : Nat) (v : Value) (h : MS Fx w wr B K 2 1 1 1 0 2 1 v [⟨0, 1, 0, 0, 10, 1, 5, 5, 5, 0, false, false, 0⟩, ⟨1, 1, 0, 1, 8, 1, 5, 3, 3, 0, false, false, 0⟩] 0) : Calls Try.prog 9 #[.pointer (some ⟨B, 0, none⟩), .agg #[.int .i64 2, .int .i64 0, .int .i64 1, .int .i64 1, .int .i64 1, .int .i64 0, .int .i64 0, .int .i64 0, .int .i64 0, .int .i64 0, .int .i64 3, .int .i64 9, .int .i64 0, .int .i64 0]] wr fun rr w' => rr = .returned .nilIface ∧ ∃ v', MS Fx w w' B K 2 1 1 1 0 2 1 v' [⟨0, 1, 0, 0, 10, 1, 5, 5, 2, 1, false, false, 0⟩, ⟨1, 1, 0, 1, 8, 1, 5, 3, 0, 1, false, false, 5⟩] 0 := by
  obtain ⟨A, cp, rfl⟩ := own_shape h.row
  obtain ⟨gb, rfl, _, _, _⟩ := h.form (by decide)
  exact do_ok Fx w wr B K 2 1 1 1 0 2 1 0 _ [⟨0, 1, 0, 0, 10, 1, 5, 5, 5, 0, false, false, 0⟩, ⟨1, 1, 0, 1, 8, 1, 5, 3, 3, 0, false, false, 0⟩] [⟨0, 1, 0, 0, 10, 1, 5, 5, 2, 1, false, false, 0⟩, ⟨1, 1, 0, 1, 8, 1, 5, 3, 0, 1, false, false, 5⟩] ⟨2, 0, 1, 1, 1, 0, 0, 0, 0, 0, 3, 9, 0, 0⟩ h (by decide) fun Fy wz hz => happen_fill Fy w wz B K 2 1 1 1 0 2 1 0 _ [⟨0, 1, 0, 0, 10, 1, 5, 5, 5, 0, false, false, 0⟩, ⟨1, 1, 0, 1, 8, 1, 5, 3, 3, 0, false, false, 0⟩] [⟨0, 1, 0, 0, 10, 1, 5, 5, 2, 1, false, false, 0⟩, ⟨1, 1, 0, 1, 8, 1, 5, 3, 0, 1, false, false, 5⟩] ⟨2, 0, 1, 1, 1, 0, 0, 0, 0, 0, 3, 9, 0, 0⟩ hz rfl fun wy hy =>
    fill_ok Fy w wy B K 2 1 1 1 0 2 1 0 gb cp [⟨0, 1, 0, 0, 10, 1, 5, 5, 5, 0, false, false, 0⟩, ⟨1, 1, 0, 1, 8, 1, 5, 3, 3, 0, false, false, 0⟩] ⟨2, 0, 1, 1, 1, 0, 0, 0, 0, 0, 3, 9, 0, 0⟩ hy (by decide) (by decide) (by decide) (by decide) 0 1 ⟨0, 1, 0, 0, 10, 1, 5, 5, 5, 0, false, false, 0⟩ ⟨1, 1, 0, 1, 8, 1, 5, 3, 3, 0, false, false, 0⟩
      rfl rfl (fun t o ht _ => absurd ht (Nat.not_lt_zero _)) rfl ⟨by decide, by decide, by decide, by decide, by decide, by decide, by decide, by decide⟩ rfl
      rfl rfl (fun t o ht ho => by
        obtain rfl : t = 0 := by omega
        obtain rfl := Option.some.inj ho
        rfl) rfl ⟨by decide, by decide, by decide, by decide, by decide, by decide, by decide, by decide⟩ rfl
      (by decide) (by decide) rfl (by decide) (by decide) (by decide)
      (fun W => match_Bo3 0 10 1 5 8 1 5 5 3 W (by decide) (by decide) (by decide) (by decide) (by decide) (by decide) (by decide) (by decide) (by decide))
end Go.Proofs.Ytnhmdaoghcfghaa

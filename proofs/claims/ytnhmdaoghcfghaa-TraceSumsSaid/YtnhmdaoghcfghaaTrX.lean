/-
  What the laws of the trace need besides.
-/
import Derived.Test.YtnhmdaoghcfghaaRows
import Derived.Test.YtnhmdaoghcfghaaKit
import Derived.Test.YtnhmdaoghcfghaaApp
import Derived.Test.YtnhmdaoghcfghaaQuiet
import Derived.Test.YtnhmdaoghcfghaaTrM
import Derived.Test.YtnhmdaoghcfghaaTrS
import Derived.Test.YtnhmdaoghcfghaaTrF
import Derived.Test.YtnhmdaoghcfghaaTrG
import Derived.Test.YtnhmdaoghcfghaaTrH
import Derived.Test.YtnhmdaoghcfghaaTrI
import Derived.Test.YtnhmdaoghcfghaaTrJ
import Derived.Test.YtnhmdaoghcfghaaTrK
import Derived.Test.YtnhmdaoghcfghaaTrL
import Derived.Test.YtnhmdaoghcfghaaTrN
import Derived.Test.YtnhmdaoghcfghaaTrO
import Derived.Test.YtnhmdaoghcfghaaRules
import Derived.Test.YtnhmdaoghcfghaaTrP
import Derived.Test.YtnhmdaoghcfghaaTrQ
import Derived.Test.YtnhmdaoghcfghaaTrR
import Derived.Test.YtnhmdaoghcfghaaTrT
import Derived.Test.YtnhmdaoghcfghaaTrU
import Derived.WalkKit
import Derived.ProofKit
import Derived.OpenShut
import Derived.ShutString
import Derived.Below
import Derived.Outline
import Derived.WalkLawsBesides
import Derived.WalkSpells
import Derived.Handy
import Derived.Deep.QuietTactic
import Derived.BigQuiet
import Derived.RegionTactic
import Derived.ChangeAlike
import Derived.Lib.Hide
import Derived.Laws.Rows
import Derived.Laws.Tables
import Derived.Laws.CopyOwn
import Derived.Laws.MakeOwn
import Derived.Laws.Entries
import Derived.Laws.OwnMore
import Derived.Deep.WholeRow
import Derived.Deep.LoopGhost
import Derived.Deep.AppendLies
import Derived.Deep.Draws
import Derived.Maps.AppendAt
import Derived.OwnWalk
import Derived.Deep.RegionHeld3
import Derived.Deep.Cut
import Derived.Deep.CutRange
import Derived.Deep.DeepCutAuto
import Derived.Deep.CutBlock
import Derived.Lib.SliceRun
import Derived.IntWalk
import Derived.OpenShut
import Derived.Deep.Slices
import Derived.Deep.Fields
import Derived.ChangeSame
import Derived.ChangeArms
import Derived.Test.YtnhmdaoghcfghaaTrW
import Derived.Laws.CopyOwn
namespace Go.Proofs.Ytnhmdaoghcfghaa
open Go.ChangeShapes Go.WideShapes Go.ChangeAt Go.RowKit
section
variable {Fx : Nat → Option Obj → Prop} {w wr w' : World} {B K : Nat} {p c n b r f g now : Int} {v : Value} {os : List Ord}
theorem MS.base {w0 : World} (h : MS Fx w wr B K p c n b r f g v os now) (hb : Below w0.heap.size w0 w) : MS Fx w0 wr B K p c n b r f g v os now := ⟨h.blk, h.row, Below.step hb h.bel, Nat.le_trans hb.size h.wB, h.kB, h.hK, h.fx⟩
/-- What a call left behind, kept from now on. -/
theorem MS.hold (h : MS Fx w wr B K p c n b r f g v os now) (hb : Below wr.heap.size wr w') : MS (fun k o => wr.heap.size ≤ k ∧ k < w'.heap.size ∧ o = w'.heap[k]?) w w' B K p c n b r f g v os now :=
  have h2 := h.below hb
  ⟨h2.blk, h2.row, h2.bel, h2.wB, h2.kB, h2.hK, fun k o hk => by
    obtain ⟨h3, h4, h5⟩ := hk
    refine ⟨h5.symm, ?_, fun he => ?_, h4⟩
    · have := h.kB; have := h.hK; omega
    · have := (h.row.lt _ he).2; omega⟩
theorem MS.was {S m size : Nat} {t : TypeId} {wm : World} {u : Value} {xs : List Value} (h : MS (fun k o => S ≤ k ∧ k < wm.heap.size ∧ o = wm.heap[k]?) w wr B K p c n b r f g v os now) (hr : wm.ownsRow S t size u m xs) : wr.ownsRow S t size u m xs :=
  row_far hr fun k h1 h2 => (h.fx k _ ⟨h1, h2, rfl⟩).1
end
theorem Step.len {F : Int} {os os' : List Ord} {e : Evt} (h : Step F os e os') : os'.length ≤ os.length + 1 := by
  cases h <;> simp
theorem eqTerms (a1 a2 a3 a4 a5 : Int) (d : Nat) (w : World) : (Op.equalIn (d + 2) 37 (.agg #[.int .i64 a1, .int .i64 a2, .int .i64 a3, .int .i64 a4, .int .i64 a5]) (.agg #[.int .i64 a1, .int .i64 a2, .int .i64 a3, .int .i64 a4, .int .i64 a5])).run Try.prog w = .ok true w := by
  have u3 := Try.underlying3
  have a3' := Try.isAgg3
  have z3 := Try.sizeOf3
  have hS : Try.prog.underlying 37 = some (.struct (Try.prog.fieldsOf 37)) := by kernel_rfl
  have hp : Try.prog.stoodInHeld 37 = false := by kernel_rfl
  rw [show d + 2 = (d + 1) + 1 from rfl, run_equalIn_agg w (d + 1) 37 _ _ hS hp]
  simp only [Program.fieldsOf, Try.underlying37]
  go_simp
theorem eqOrd (o : Ord) (w : World) : (Op.equalIn 10000 44 (.agg (List.toArray [.int .i64 o.c, .int .i64 o.g, .int .i64 o.n, .int .i64 o.s, .int .i64 o.p, .int .i64 o.l, .int .i64 o.u, .int .i64 o.q, .int .i64 o.lf, .int .i64 o.fl, .bool o.ak, .bool o.rs, .int .i64 o.en])) (.agg (List.toArray [.int .i64 o.c, .int .i64 o.g, .int .i64 o.n, .int .i64 o.s, .int .i64 o.p, .int .i64 o.l, .int .i64 o.u, .int .i64 o.q, .int .i64 o.lf, .int .i64 o.fl, .bool o.ak, .bool o.rs, .int .i64 o.en]))).run Try.prog w = .ok true w := by
  have u3 := Try.underlying3
  have a3' := Try.isAgg3
  have z3 := Try.sizeOf3
  have u4 := Try.underlying4
  have a4' := Try.isAgg4
  have z4 := Try.sizeOf4
  have a63 := Try.isAgg37
  have z63 := Try.sizeOf37
  have hS : Try.prog.underlying 44 = some (.struct (Try.prog.fieldsOf 44)) := by kernel_rfl
  have hp : Try.prog.stoodInHeld 44 = false := by kernel_rfl
  have hT := eqTerms o.n o.s o.p o.l o.u 9997
  rw [show (10000 : Nat) = 9999 + 1 from rfl, run_equalIn_agg w 9999 44 _ _ hS hp]
  simp only [Program.fieldsOf, Try.underlying44]
  go_simp
  try simp [hT]
end Go.Proofs.Ytnhmdaoghcfghaa

/-
  Two answers held against each other; two sources beside each other.
-/
import Derived.Test.YtgakgnofflnjoaaRows
import Derived.Test.YtgakgnofflnjoaaKit
import Derived.Test.YtgakgnofflnjoaaQuiet
import Derived.Test.YtgakgnofflnjoaaSt
import Derived.WalkKit
import Derived.ProofKit
import Derived.OpenShut
import Derived.ShutString
import Derived.Below
import Derived.Outline
import Derived.WalkLawsBesides
import Derived.WalkSpells
import Derived.Handy
import Derived.Deep.QuietTactic
import Derived.BigQuiet
import Derived.RegionTactic
import Derived.ChangeAlike
import Derived.Lib.Hide
import Derived.Laws.Rows
import Derived.Laws.Tables
import Derived.Laws.CopyOwn
import Derived.Laws.MakeOwn
import Derived.Laws.Entries
import Derived.Laws.OwnMore
import Derived.Deep.WholeRow
import Derived.Deep.LoopGhost
import Derived.Deep.AppendLies
import Derived.Deep.Draws
import Derived.Maps.AppendAt
import Derived.OwnWalk
import Derived.Deep.RegionHeld3
import Derived.Deep.Cut
import Derived.Deep.CutRange
import Derived.Deep.DeepCutAuto
import Derived.Deep.CutBlock
import Derived.Lib.SliceRun
import Derived.IntWalk
import Derived.Deep.RegionWith
import Derived.Test.YtgakgnofflnjoaaStA
import Derived.Test.YtgakgnofflnjoaaStT
import Derived.Test.YtgakgnofflnjoaaStK
import Derived.Test.YtgakgnofflnjoaaStR
import Derived.Test.YtgakgnofflnjoaaStL
import Derived.Test.YtgakgnofflnjoaaStS
import Derived.Test.YtgakgnofflnjoaaStM
import Derived.Test.YtgakgnofflnjoaaStV
namespace Go.Proofs.Ytgakgnofflnjoaa
open Go.ChangeShapes Go.WideShapes Go.ChangeAt Go.RowKit
theorem eqTerms (a1 a2 a3 a4 a5 : Int) (d : Nat) (w : World) : (Op.equalIn (d + 2) 43 (.agg #[.int .i64 a1, .int .i64 a2, .int .i64 a3, .int .i64 a4, .int .i64 a5]) (.agg #[.int .i64 a1, .int .i64 a2, .int .i64 a3, .int .i64 a4, .int .i64 a5])).run Try.prog w = .ok true w := by
  have u3 := Try.underlying3
  have a3' := Try.isAgg3
  have z3 := Try.sizeOf3
  have hS : Try.prog.underlying 43 = some (.struct (Try.prog.fieldsOf 43)) := by kernel_rfl
  have hp : Try.prog.stoodInHeld 43 = false := by kernel_rfl
  rw [show d + 2 = (d + 1) + 1 from rfl, run_equalIn_agg w (d + 1) 43 _ _ hS hp]
  simp only [Program.fieldsOf, Try.underlying43]
  go_simp
theorem eqAsk (k i c a1 a2 a3 a4 a5 q : Int) (w : World) : (Op.equalIn 10000 65 (.agg #[.int .i64 k, .int .i64 i, .int .i64 c, .int .i64 a1, .int .i64 a2, .int .i64 a3, .int .i64 a4, .int .i64 a5, .int .i64 q]) (.agg #[.int .i64 k, .int .i64 i, .int .i64 c, .int .i64 a1, .int .i64 a2, .int .i64 a3, .int .i64 a4, .int .i64 a5, .int .i64 q])).run Try.prog w = .ok true w := by
  have u3 := Try.underlying3
  have a3' := Try.isAgg3
  have z3 := Try.sizeOf3
  have a63 := Try.isAgg43
  have z63 := Try.sizeOf43
  have hS : Try.prog.underlying 65 = some (.struct (Try.prog.fieldsOf 65)) := by kernel_rfl
  have hp : Try.prog.stoodInHeld 65 = false := by kernel_rfl
  have hT := eqTerms a1 a2 a3 a4 a5 9997
  rw [show (10000 : Nat) = 9999 + 1 from rfl, run_equalIn_agg w 9999 65 _ _ hS hp]
  simp only [Program.fieldsOf, Try.underlying65]
  go_simp
  try simp [hT]
/-- Two sources, each at its own number. -/
structure Dbl (w wr : World) (b1 b2 : Nat) (N1 N2 : Int) : Prop where
  c1 : wr.cell? ⟨b1, 0, none⟩ = some (.int .u64 N1)
  f1 : wr.frozen? ⟨b1, 0, none⟩ = false
  c2 : wr.cell? ⟨b2, 0, none⟩ = some (.int .u64 N2)
  f2 : wr.frozen? ⟨b2, 0, none⟩ = false
  bel : Below w.heap.size w wr
  lt1 : w.heap.size ≤ b1
  lt2 : w.heap.size ≤ b2
  ne : b1 ≠ b2
theorem src_bel {w wr w' : World} {b : Nat} {M : Int} (h : Below w.heap.size w wr) (hl : w.heap.size ≤ b) (k : Src wr w' b M) : Below w.heap.size w w' :=
  ⟨k.os.trans h.os, k.tape.trans h.tape, k.output.trans h.output, Nat.le_trans h.size k.size, fun i hi => (k.o i (Nat.lt_of_lt_of_le hi h.size) (by omega)).trans (h.block i hi)⟩
theorem Dbl.left {w wr w' : World} {b1 b2 : Nat} {N1 N2 M : Int} (h : Dbl w wr b1 b2 N1 N2) (k : Src wr w' b1 M) : Dbl w w' b1 b2 M N2 :=
  ⟨k.c, k.f, (k.other (lt_of_cell h.c2) (fun e => h.ne e.symm)).trans h.c2, (k.otherF (lt_of_cell h.c2) (fun e => h.ne e.symm)).trans h.f2, src_bel h.bel h.lt1 k, h.lt1, h.lt2, h.ne⟩
theorem Dbl.right {w wr w' : World} {b1 b2 : Nat} {N1 N2 M : Int} (h : Dbl w wr b1 b2 N1 N2) (k : Src wr w' b2 M) : Dbl w w' b1 b2 N1 M :=
  ⟨(k.other (lt_of_cell h.c1) h.ne).trans h.c1, (k.otherF (lt_of_cell h.c1) h.ne).trans h.f1, k.c, k.f, src_bel h.bel h.lt2 k, h.lt1, h.lt2, h.ne⟩
theorem Dbl.below {w wr w' : World} {b1 b2 : Nat} {N1 N2 : Int} (h : Dbl w wr b1 b2 N1 N2) (hb : Below wr.heap.size wr w') : Dbl w w' b1 b2 N1 N2 :=
  ⟨(hb.cell (p := ⟨b1, 0, none⟩) (lt_of_cell h.c1)).trans h.c1, (hb.frozen (p := ⟨b1, 0, none⟩) (lt_of_cell h.c1)).trans h.f1, (hb.cell (p := ⟨b2, 0, none⟩) (lt_of_cell h.c2)).trans h.c2, (hb.frozen (p := ⟨b2, 0, none⟩) (lt_of_cell h.c2)).trans h.f2, Below.step h.bel hb, h.lt1, h.lt2, h.ne⟩
end Go.Proofs.Ytgakgnofflnjoaa

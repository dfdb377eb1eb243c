/-
  The law's example.
-/
import Derived.Test.YtnppopeoloigeaaDoorRows
import Derived.Test.YtnppopeoloigeaaDoorKit
import Derived.Test.YtnppopeoloigeaaDoorApp
import Derived.Test.YtnppopeoloigeaaDoorQuiet
import Derived.WalkKit
import Derived.ProofKit
import Derived.OpenShut
import Derived.ShutString
import Derived.Below
import Derived.Outline
import Derived.WalkLawsBesides
import Derived.WalkSpells
import Derived.Handy
import Derived.Deep.QuietTactic
import Derived.BigQuiet
import Derived.RegionTactic
import Derived.ChangeAlike
import Derived.Lib.Hide
import Derived.Laws.Rows
import Derived.Laws.Tables
import Derived.Laws.CopyOwn
import Derived.Laws.MakeOwn
import Derived.Laws.Entries
import Derived.Laws.OwnMore
import Derived.Deep.WholeRow
import Derived.Deep.LoopGhost
import Derived.Deep.AppendLies
import Derived.Deep.Draws
import Derived.Maps.AppendAt
import Derived.OwnWalk
import Derived.Deep.RegionHeld3
import Derived.Deep.Cut
import Derived.Deep.CutRange
import Derived.Deep.DeepCutAuto
import Derived.Deep.CutBlock
import Derived.Lib.SliceRun
import Derived.IntWalk
import Derived.Laws.Strings
import Derived.Test.YtnppopeoloigeaaDoorLnP
import Derived.Test.YtnppopeoloigeaaDoorNsE
import Derived.Deep.RegionHeld3
namespace Go.Proofs.YtnppopeoloigeaaDoor
open Go.ChangeShapes Go.WideShapes Go.ChangeAt Go.RowKit
/-- An ask. -/
structure Ak where
  k : Int
  i : Int
  c : Int
  n : Int
  s : Int
  p : Int
  l : Int
  u : Int
  q : Int
theorem eqTerm (x : Ak) (w : World) : (Op.equalIn 9999 24 (.agg (List.toArray [.int .i64 x.n, .int .i64 x.s, .int .i64 x.p, .int .i64 x.l, .int .i64 x.u])) (.agg (List.toArray [.int .i64 x.n, .int .i64 x.s, .int .i64 x.p, .int .i64 x.l, .int .i64 x.u]))).run Tryd.prog w = .ok true w := by
  have u3 := Tryd.underlying3
  have a3' := Tryd.isAgg3
  have z3 := Tryd.sizeOf3
  have hS : Tryd.prog.underlying 24 = some (.struct (Tryd.prog.fieldsOf 24)) := by kernel_rfl
  have hp : Tryd.prog.stoodInHeld 24 = false := by kernel_rfl
  rw [show (9999 : Nat) = 9998 + 1 from rfl, run_equalIn_agg w 9998 24 _ _ hS hp]
  simp only [Program.fieldsOf, Tryd.underlying24]
  go_simp
theorem eqAk (x : Ak) (w : World) : (Op.equalIn 10000 26 (.agg (List.toArray [.int .i64 x.k, .int .i64 x.i, .int .i64 x.c, .int .i64 x.n, .int .i64 x.s, .int .i64 x.p, .int .i64 x.l, .int .i64 x.u, .int .i64 x.q])) (.agg (List.toArray [.int .i64 x.k, .int .i64 x.i, .int .i64 x.c, .int .i64 x.n, .int .i64 x.s, .int .i64 x.p, .int .i64 x.l, .int .i64 x.u, .int .i64 x.q]))).run Tryd.prog w = .ok true w := by
  have u3 := Tryd.underlying3
  have a3' := Tryd.isAgg3
  have z3 := Tryd.sizeOf3
  have a48 := Tryd.isAgg24
  have z48 := Tryd.sizeOf24
  have ht := eqTerm x w
  have hS : Tryd.prog.underlying 26 = some (.struct (Tryd.prog.fieldsOf 26)) := by kernel_rfl
  have hp : Tryd.prog.stoodInHeld 26 = false := by kernel_rfl
  rw [show (10000 : Nat) = 9999 + 1 from rfl, run_equalIn_agg w 9999 26 _ _ hS hp]
  simp only [Program.fieldsOf, Tryd.underlying26]
  go_simp
theorem eqlAk (x : Ak) (w : World) : (binOp .eql 26 (.agg (List.toArray [.int .i64 x.k, .int .i64 x.i, .int .i64 x.c, .int .i64 x.n, .int .i64 x.s, .int .i64 x.p, .int .i64 x.l, .int .i64 x.u, .int .i64 x.q])) (.agg (List.toArray [.int .i64 x.k, .int .i64 x.i, .int .i64 x.c, .int .i64 x.n, .int .i64 x.s, .int .i64 x.p, .int .i64 x.l, .int .i64 x.u, .int .i64 x.q]))).run Tryd.prog w = .ok (.bool true) w := by
  simp only [binOp]
  simp [Op.equal, Op.maxDepth, eqAk x w]
theorem Er.chain {w : World} {c p : Int} {v : Value} (h : Er w c p v) : Ch w c [.pl p] v := by
  obtain ⟨b, e, hl, h1, h2⟩ := h
  exact ⟨b, _, e, hl, h1, h2, rfl⟩
theorem lp_a : lp ⟨#[99, 97, 110, 99, 101, 108, 32, 55, 32, 48]⟩ = .ok [2, 7, 0, 0, 0, 0, 0, 0, 0] := by kernel_rfl
theorem lp_b : lp ⟨#[99, 97, 110, 99, 101, 108, 32, 48, 55, 32, 48]⟩ = .er 13 7 := by kernel_rfl
/-- What the walks want of a world: the table of verbs, the cell of errors.errorType. -/
structure Wd (w : World) : Prop where
  vb : Vb w
  hg : w.cell? ⟨1, 0, none⟩ = some (.iface 106 (.agg #[.pointer (some ⟨8, 28, none⟩)]))
  hgl : 1 < w.heap.size
theorem Wd.below {w w' : World} (h : Wd w) (hb : Below w.heap.size w w') : Wd w' :=
  ⟨h.vb.below hb, (hb.cell (p := ⟨1, 0, none⟩) h.hgl).trans h.hg, by have := hb.size; have := h.hgl; omega⟩
set_option maxRecDepth 100000 in
set_option maxHeartbeats 4000000 in
theorem awake_is (w : World) (hw : Wd w) : Calls Tryd.prog 7 #[] w fun e w' => e = .returned (.bool true) ∧ Below w.heap.size w w' := by
  have HW := Lib.hid hw
  have HP1 := Lib.hid (fun W hv => parse_is ⟨#[99, 97, 110, 99, 101, 108, 32, 55, 32, 48]⟩ (by decide) W hv)
  have HP2 := Lib.hid (fun W hv => parse_is ⟨#[99, 97, 110, 99, 101, 108, 32, 48, 55, 32, 48]⟩ (by decide) W hv)
  rw [lp_a] at HP1
  rw [lp_b] at HP2
  clear hw
  go_enter Tryd.func7, Tryd.ntmps7
  go_wp2_with fail
  refine (HP1.out _ HW.out.vb).mono ?_
  rintro e1 w1 ⟨rfl, hb1⟩
  have g1 : Below w1.heap.size w1 (w1.alloc (.cells (List.toArray [.int .i64 2, .int .i64 7, .int .i64 0, .int .i64 0, .int .i64 0, .int .i64 0, .int .i64 0, .int .i64 0, .int .i64 0]) 26)) := by go_grown
  have b1 := Bl.new w1 [.int .i64 2, .int .i64 7, .int .i64 0, .int .i64 0, .int .i64 0, .int .i64 0, .int .i64 0, .int .i64 0, .int .i64 0] 26
  have HB1 := Lib.hid (And.intro b1 (Below.step hb1 g1))
  clear g1 b1 hb1 HP1
  go_wp2_with fail
  refine (HP2.out _ (HW.out.below HB1.out.2).vb).mono ?_
  rintro e2 w2 ⟨v2, rfl, hE, hb2⟩
  have g2 : Below w2.heap.size w2 (w2.alloc (.cells (List.toArray [.int .i64 0, .int .i64 0, .int .i64 0, .int .i64 0, .int .i64 0, .int .i64 0, .int .i64 0, .int .i64 0, .int .i64 0]) 26)) := by go_grown
  have hb3 := Below.step hb2 g2
  have HB3 := Lib.hid (And.intro (HB1.out.1.below hb3) (Below.step HB1.out.2 hb3))
  have hE3 := hE.below g2
  have HCH := Lib.hid (And.intro hE3 hE3.chain)
  clear hE hb2 g2 hb3 HP2 hE3
  go_wp2_with fail
  refine (place_some 7 [.pl 7] 13 _ _ HCH.out.2 (HW.out.below HB3.out.2).hg (HW.out.below HB3.out.2).hgl rfl).mono ?_
  rintro e4 w4 ⟨rfl, hb4⟩
  have HB4 := Lib.hid (And.intro (HB3.out.1.below hb4) (Below.step HB3.out.2 hb4))
  have HC4 := Lib.hid (HCH.out.1.below hb4).chain
  have ea := fun W => eqlAk ⟨2, 7, 0, 0, 0, 0, 0, 0, 0⟩ W
  have a0 := HB4.out.1.cell 0 _ rfl
  have a1 := HB4.out.1.cell 1 _ rfl
  have a2 := HB4.out.1.cell 2 _ rfl
  have a3 := HB4.out.1.cell 3 _ rfl
  have a4 := HB4.out.1.cell 4 _ rfl
  have a5 := HB4.out.1.cell 5 _ rfl
  have a6 := HB4.out.1.cell 6 _ rfl
  have a7 := HB4.out.1.cell 7 _ rfl
  have a8 := HB4.out.1.cell 8 _ rfl
  clear hb4
  go_wp2_with fail
  refine (code_is [.pl 7] 13 _ _ HC4.out (HW.out.below HB4.out.2).hg (HW.out.below HB4.out.2).hgl).mono ?_
  rintro e5 w5 ⟨rfl, hb5⟩
  have HB5 := Lib.hid (Below.step HB4.out.2 hb5)
  clear hb5
  go_wp2_with fail
  go_ret
  exact ⟨rfl, HB5.out⟩
end Go.Proofs.YtnppopeoloigeaaDoor

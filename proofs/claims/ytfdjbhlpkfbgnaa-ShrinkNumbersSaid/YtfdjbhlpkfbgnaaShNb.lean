/-
  A number of a script is tried.
-/
import Derived.Test.YtfdjbhlpkfbgnaaRows
import Derived.Test.YtfdjbhlpkfbgnaaKit
import Derived.Test.YtfdjbhlpkfbgnaaApp
import Derived.Test.YtfdjbhlpkfbgnaaQuiet
import Derived.Test.YtfdjbhlpkfbgnaaShM
import Derived.Test.YtfdjbhlpkfbgnaaShO
import Derived.Test.YtfdjbhlpkfbgnaaShB
import Derived.Test.YtfdjbhlpkfbgnaaShC
import Derived.Test.YtfdjbhlpkfbgnaaShD
import Derived.Test.YtfdjbhlpkfbgnaaShA
import Derived.Test.YtfdjbhlpkfbgnaaShNa
import Derived.WalkKit
import Derived.ProofKit
import Derived.OpenShut
import Derived.ShutString
import Derived.Below
import Derived.Outline
import Derived.WalkLawsBesides
import Derived.WalkSpells
import Derived.Handy
import Derived.Deep.QuietTactic
import Derived.BigQuiet
import Derived.RegionTactic
import Derived.ChangeAlike
import Derived.Lib.Hide
import Derived.Laws.Rows
import Derived.Laws.Tables
import Derived.Laws.CopyOwn
import Derived.Laws.MakeOwn
import Derived.Laws.Entries
import Derived.Laws.OwnMore
import Derived.Deep.WholeRow
import Derived.Deep.LoopGhost
import Derived.Deep.AppendLies
import Derived.Deep.Draws
import Derived.Maps.AppendAt
import Derived.OwnWalk
import Derived.Deep.RegionHeld3
import Derived.Deep.Cut
import Derived.Deep.CutRange
import Derived.Deep.DeepCutAuto
import Derived.Deep.CutBlock
import Derived.Lib.SliceRun
import Derived.IntWalk
namespace Go.Proofs.Ytfdjbhlpkfbgnaa
open Go.ChangeShapes Go.WideShapes Go.ChangeAt Go.RowKit
theorem nv_cons (x : Evn) (r : List Evn) : nv (x :: r) = nc x ++ nv r := by unfold nv; simp
theorem nv_set (v : Int) : ∀ (l : List Evn) (i : Nat) (x : Evn), l[i]? = some x → nv (l.set i { x with n := v }) = (nv l).set (i * 12 + 2) (.int .i64 v)
  | [], i, x, h => by cases h
  | y :: r, 0, x, h => by
    obtain rfl := Option.some.inj (show some y = some x from h)
    rfl
  | y :: r, i + 1, x, h => by
    have ih := nv_set v r i x h
    rw [List.set_cons_succ, nv_cons, nv_cons, ih, List.set_append_right _ _ (by rw [nc_len]; omega)]
    congr 2
    rw [nc_len]
    omega
theorem cell_lt0 {w : World} {a : Addr} {v : Value} (h : w.cell? a = some v) : a.block < w.heap.size := by
  rcases Nat.lt_or_ge a.block w.heap.size with hlt | hge
  · exact hlt
  · have e : w.heap[a.block]? = none := Array.getElem?_eq_none hge
    simp [World.cell?, e] at h
/-- All but one block stays. -/
def Oth (g : Nat) (w w' : World) : Prop := (∀ p : Addr, p.block < w.heap.size → p.block ≠ g → w'.cell? p = w.cell? p) ∧ (∀ p : Addr, p.block < w.heap.size → p.block ≠ g → w'.frozen? p = w.frozen? p) ∧ w.heap.size ≤ w'.heap.size
theorem Oth.refl (g : Nat) (w : World) : Oth g w w := ⟨fun _ _ _ => rfl, fun _ _ _ => rfl, Nat.le_refl _⟩
theorem Oth.trans {g : Nat} {w w1 w2 : World} (h : Oth g w w1) (k : Oth g w1 w2) : Oth g w w2 :=
  ⟨fun p h1 h2 => (k.1 p (Nat.lt_of_lt_of_le h1 h.2.2) h2).trans (h.1 p h1 h2), fun p h1 h2 => (k.2.1 p (Nat.lt_of_lt_of_le h1 h.2.2) h2).trans (h.2.1 p h1 h2), Nat.le_trans h.2.2 k.2.2⟩
theorem Oth.of {g : Nat} {w w' : World} (hb : Below w.heap.size w w') : Oth g w w' := ⟨fun p h1 _ => hb.cell h1, fun p h1 _ => hb.frozen h1, hb.size⟩
theorem Oth.set (g j : Nat) (w : World) (u : Value) : Oth g w (w.setCell ⟨g, j, none⟩ u) :=
  ⟨fun p _ h2 => World.cell?_setCell_far _ _ _ _ (fun e => h2 e.symm), fun p _ _ => by simp only [World.frozen?_setCell], by simp only [World.size_setCell]; exact Nat.le_refl _⟩
set_option maxRecDepth 100000 in
set_option maxHeartbeats 1000000 in
theorem try_is (P : List Evn → Bool) (w : World) (base lb ib kb HB g N c i : Nat) (v : Int) (l : List Evn) (x : Evn) (ho : w.ownsRow base 38 12 (.slice (some ⟨g, 0, none⟩) N c) N (nv l)) (hN : N = l.length) (hl : N ≤ 60) (hx : l[i]? = some x) (h1 : w.cell? ⟨lb, 0, none⟩ = some (.slice (some ⟨g, 0, none⟩) N c)) (h2 : w.cell? ⟨ib, 0, none⟩ = some (.int .i64 (i : Int))) (h3 : w.cell? ⟨kb, 0, none⟩ = some (.func (.func 26) #[] #[.pointer (some ⟨HB, 0, none⟩)])) (n1 : lb ≠ g) (n2 : ib ≠ g) (n3 : kb ≠ g) (hA : AskOk (w.setCell ⟨g, i * 12 + 2, none⟩ (.int .i64 v)) HB P) : Calls Try.prog 24 #[.int .i64 v, .pointer (some ⟨lb, 0, none⟩), .pointer (some ⟨ib, 0, none⟩), .pointer (some ⟨kb, 0, none⟩)] w fun e w' => e = .returned (.bool (P (l.set i { x with n := v }))) ∧ Oth g w w' ∧ Below g w w' ∧ w'.ownsRow base 38 12 (.slice (some ⟨g, 0, none⟩) N c) N (nv (l.set i { x with n := v })) := by
  have hi : i < N := by rw [hN]; exact (List.getElem?_eq_some_iff.1 hx).1
  have i0 : (0 : Int) ≤ (i : Int) := by omega
  have i1 : (i : Int) < (N : Int) := by omega
  have hc2 : w.cell? ⟨g, i * 12 + 2, none⟩ = some (.int .i64 x.n) := erow_cell ho hx hN (by omega) rfl
  have hf2 : w.frozen? ⟨g, i * 12 + 2, none⟩ = false := World.ownsRow.frozenAt ho _
  have hgs : g < w.heap.size := cell_lt0 hc2
  have hst := World.ownsRow.stored ho (i * 12 + 2) (.int .i64 v)
  have hr1 := hst.1
  rw [← nv_set v l i x hx] at hr1
  have HQ := Lib.hid (hA (w.setCell ⟨g, i * 12 + 2, none⟩ (.int .i64 v)) base N c (some ⟨g, 0, none⟩) (l.set i { x with n := v }) (Below.refl _ _) hr1 (by rw [List.length_set]; exact hN) hl)
  have g1 : (w.setCell ⟨g, i * 12 + 2, none⟩ (.int .i64 v)).cell? ⟨lb, 0, none⟩ = some (.slice (some ⟨g, 0, none⟩) N c) := (World.cell?_setCell_far _ _ _ _ (fun e => n1 e.symm)).trans h1
  have g3 : (w.setCell ⟨g, i * 12 + 2, none⟩ (.int .i64 v)).cell? ⟨kb, 0, none⟩ = some (.func (.func 26) #[] #[.pointer (some ⟨HB, 0, none⟩)]) := (World.cell?_setCell_far _ _ _ _ (fun e => n3 e.symm)).trans h3
  have HOT := Lib.hid (Oth.set g (i * 12 + 2) w (.int .i64 v))
  have HBG := Lib.hid ((Below.refl g w).setCell (p := ⟨g, i * 12 + 2, none⟩) (Nat.le_refl _) (.int .i64 v))
  have HGS := Lib.hid (show g < (w.setCell ⟨g, i * 12 + 2, none⟩ (.int .i64 v)).heap.size from by simp only [World.size_setCell]; exact hgs)
  have HR1 := Lib.hid hr1
  have HH := Lib.hid (And.intro h1 h2)
  generalize l.set i { x with n := v } = L2 at *
  clear ho hN hl hx hA hst hr1 hi hgs n1 n2 n3
  generalize hPV : P L2 = PV at *
  clear hPV
  go_enter Try.func24, Try.ntmps24
  go_wp2_with fail
  refine HQ.out.mono ?_
  rintro e1 w1 ⟨rfl, hb1⟩
  have HB1 := Lib.hid hb1
  clear hb1
  go_wp2_with fail
  go_ret
  exact ⟨rfl, HOT.out.trans (Oth.of HB1.out), HBG.out.trans (HB1.out.mono (Nat.le_of_lt HGS.out)), rkept HR1.out HB1.out⟩
end Go.Proofs.Ytfdjbhlpkfbgnaa

/-
  The clock in a block; a script's events.
-/
import Derived.Test.YtgakgnofflnjoaaRows
import Derived.Test.YtgakgnofflnjoaaKit
import Derived.Test.YtgakgnofflnjoaaApp
import Derived.Test.YtgakgnofflnjoaaQuiet
import Derived.Test.YtgakgnofflnjoaaSt
import Derived.Test.YtgakgnofflnjoaaStA
import Derived.Test.YtgakgnofflnjoaaStT
import Derived.Test.YtgakgnofflnjoaaStK
import Derived.Test.YtgakgnofflnjoaaStR
import Derived.Test.YtgakgnofflnjoaaStL
import Derived.Test.YtgakgnofflnjoaaStS
import Derived.Test.YtgakgnofflnjoaaStM
import Derived.Test.YtgakgnofflnjoaaStV
import Derived.Test.YtgakgnofflnjoaaStD
import Derived.Test.YtgakgnofflnjoaaSxP
import Derived.WalkKit
import Derived.ProofKit
import Derived.OpenShut
import Derived.ShutString
import Derived.Below
import Derived.Outline
import Derived.WalkLawsBesides
import Derived.WalkSpells
import Derived.Handy
import Derived.Deep.QuietTactic
import Derived.BigQuiet
import Derived.RegionTactic
import Derived.ChangeAlike
import Derived.Lib.Hide
import Derived.Laws.Rows
import Derived.Laws.Tables
import Derived.Laws.CopyOwn
import Derived.Laws.MakeOwn
import Derived.Laws.Entries
import Derived.Laws.OwnMore
import Derived.Deep.WholeRow
import Derived.Deep.LoopGhost
import Derived.Deep.AppendLies
import Derived.Deep.Draws
import Derived.Maps.AppendAt
import Derived.OwnWalk
import Derived.Deep.RegionHeld3
import Derived.Deep.Cut
import Derived.Deep.CutRange
import Derived.Deep.DeepCutAuto
import Derived.Deep.CutBlock
import Derived.Lib.SliceRun
import Derived.IntWalk
namespace Go.Proofs.Ytgakgnofflnjoaa
open Go.ChangeShapes Go.WideShapes Go.ChangeAt Go.RowKit
theorem add_over (b : Nat) (x y : Int) (w : World) (h0 : 0 ≤ x) (h1 : x ≤ 1000000) (h2 : y ≤ 9223372036854775807) (h3 : 1000000 - x < y) (c0 : w.cell? ⟨b, 0, none⟩ = some (.int .u64 x)) (c1 : w.cell? ⟨b, 1, none⟩ = some (.int .u64 y)) :
    Calls Try.prog 31 #[.int .u64 1000000, .slice (some ⟨b, 0, none⟩) 2 2] w fun e w' => e = .returned (.int .u64 1000000) ∧ w = w' := by
  go_enter Try.func31, Try.ntmps31
  go_wp2
  go_rounds 3
  all_goals go_ret
  all_goals exact ⟨rfl, rfl⟩
theorem add_under (b : Nat) (x y : Int) (w : World) (h0 : 0 ≤ x) (h1 : x ≤ 1000000) (h2 : 0 < y) (h3 : y ≤ 1000000 - x) (c0 : w.cell? ⟨b, 0, none⟩ = some (.int .u64 x)) (c1 : w.cell? ⟨b, 1, none⟩ = some (.int .u64 y)) :
    Calls Try.prog 31 #[.int .u64 1000000, .slice (some ⟨b, 0, none⟩) 2 2] w fun e w' => e = .returned (.int .u64 (x + y)) ∧ w = w' := by
  go_enter Try.func31, Try.ntmps31
  go_wp2
  go_rounds 3
  all_goals go_ret
  all_goals exact ⟨rfl, rfl⟩

structure But (w w' : World) (g : Nat) : Prop where
  os : w'.os = w.os
  tape : w'.tape = w.tape
  output : w'.output = w.output
  size : w.heap.size ≤ w'.heap.size
  o : ∀ k, k < w.heap.size → k ≠ g → w'.heap[k]? = w.heap[k]?
theorem But.refl (w : World) (g : Nat) : But w w g := ⟨rfl, rfl, rfl, Nat.le_refl _, fun _ _ _ => rfl⟩
theorem But.step {w w1 w2 : World} {g : Nat} (h : But w w1 g) (k : But w1 w2 g) : But w w2 g :=
  ⟨k.os.trans h.os, k.tape.trans h.tape, k.output.trans h.output, Nat.le_trans h.size k.size, fun i hi hne => (k.o i (Nat.lt_of_lt_of_le hi h.size) hne).trans (h.o i hi hne)⟩
theorem But.of_below {w w' : World} (g : Nat) (h : Below w.heap.size w w') : But w w' g := ⟨h.os, h.tape, h.output, h.size, fun k hk _ => h.block k hk⟩
theorem But.set (w : World) (g j : Nat) (u : Value) : But w (w.setCell ⟨g, j, none⟩ u) g := ⟨rfl, rfl, rfl, by simp, fun k _ hne => Below.heap_setCell w ⟨g, j, none⟩ u k hne⟩
theorem But.setCells (g : Nat) : ∀ (vs : List Value) (o : Nat) (w : World), But w (w.setCells g o vs) g
  | [], o, w => But.refl w g
  | v :: vs, o, w => (But.set w g o v).step (But.setCells g vs (o + 1) (w.setCell ⟨g, o, none⟩ v))
theorem now_is (B k : Nat) (v : Int) (w : World) (h : w.cell? ⟨B, k, none⟩ = some (.int .i64 v)) : Calls Try.prog 24 #[.pointer (some ⟨B, k, none⟩)] w fun e w' => e = .returned (.int .i64 v) ∧ w = w' := by
  go_enter Try.func24, Try.ntmps24
  go_wp2_with fail
  go_ret
  exact ⟨rfl, rfl⟩
set_option maxHeartbeats 1000000 in
theorem go_over (B k g : Nat) (v x : Int) (l : List Value) (w : World) (hB : Bl B l w) (hk : l[k]? = some (.int .i64 v)) (hv : 0 ≤ v ∧ v ≤ 1000000) (hx : 1 ≤ x ∧ x ≤ 1000) (ho : 1000000 - v < x) (hs : w.cell? ⟨g, 0, none⟩ = some (.int .i64 x)) :
    Calls Try.prog 25 #[.pointer (some ⟨B, k, none⟩), .slice (some ⟨g, 0, none⟩) 1 1] w fun e w' => e = .returned (.int .i64 (1000000)) ∧ Bl B (l.set k (.int .i64 (1000000))) w' ∧ But w w' B := by
  have c0 := hB.cell k _ hk
  have f0 := hB.frz k
  have hBl := hB.lt
  obtain ⟨v0, v1⟩ := hv
  obtain ⟨x0, x1⟩ := hx
  have HB := Lib.hid hB
  have HK := Lib.hid hk
  clear hB hk
  go_enter Try.func25, Try.ntmps25
  go_wp2_with fail
  go_loopw [11] (fun i wr => (i = .int .i64 0 ∧ wr = w) ∨ (i = .int .i64 1 ∧ Hid (Bl B (l.set k (.int .i64 (1000000))) wr) ∧ But w wr B)) (fun i _ => 2 - (intOf i).toNat)
  case atStart => exact .inl ⟨rfl, rfl⟩
  case round =>
    rcases hrel with ⟨rfl, rfl⟩ | ⟨rfl, HB2, hb2⟩
    · go_wp2_with fail
      refine (add_over wr.heap.size v x _ v0 v1 (by omega) (by omega) (by simp [go_sem]) (by simp [go_sem])).mono ?_
      rintro e w1 ⟨rfl, rfl⟩
      go_wp2_with fail
      go_roundw
      case rel => exact .inr ⟨by go_num, Lib.hid ((HB.out.set k (.int .i64 (1000000))).below ((Below.refl _ _).alloc (Nat.le_refl _) _)), (But.set wr B k _).step (But.of_below B ((Below.refl _ _).alloc (Nat.le_refl _) _))⟩
      case measure => simp [intOf]
    · have hk2 : (l.set k (.int .i64 (1000000)))[k]? = some (.int .i64 (1000000)) := by rw [List.getElem?_set_self]; exact (List.getElem?_eq_some_iff.1 HK.out).1
      have c2 := HB2.out.cell k _ hk2
      go_wp2_with fail
      go_ret
      exact ⟨rfl, HB2.out, hb2⟩
set_option maxHeartbeats 1000000 in
theorem go_under (B k g : Nat) (v x : Int) (l : List Value) (w : World) (hB : Bl B l w) (hk : l[k]? = some (.int .i64 v)) (hv : 0 ≤ v ∧ v ≤ 1000000) (hx : 1 ≤ x ∧ x ≤ 1000) (ho : ¬ 1000000 - v < x) (hs : w.cell? ⟨g, 0, none⟩ = some (.int .i64 x)) :
    Calls Try.prog 25 #[.pointer (some ⟨B, k, none⟩), .slice (some ⟨g, 0, none⟩) 1 1] w fun e w' => e = .returned (.int .i64 (v + x)) ∧ Bl B (l.set k (.int .i64 (v + x))) w' ∧ But w w' B := by
  have c0 := hB.cell k _ hk
  have f0 := hB.frz k
  have hBl := hB.lt
  obtain ⟨v0, v1⟩ := hv
  obtain ⟨x0, x1⟩ := hx
  have HB := Lib.hid hB
  have HK := Lib.hid hk
  clear hB hk
  go_enter Try.func25, Try.ntmps25
  go_wp2_with fail
  go_loopw [11] (fun i wr => (i = .int .i64 0 ∧ wr = w) ∨ (i = .int .i64 1 ∧ Hid (Bl B (l.set k (.int .i64 (v + x))) wr) ∧ But w wr B)) (fun i _ => 2 - (intOf i).toNat)
  case atStart => exact .inl ⟨rfl, rfl⟩
  case round =>
    rcases hrel with ⟨rfl, rfl⟩ | ⟨rfl, HB2, hb2⟩
    · go_wp2_with fail
      refine (add_under wr.heap.size v x _ v0 v1 (by omega) (by omega) (by simp [go_sem]) (by simp [go_sem])).mono ?_
      rintro e w1 ⟨rfl, rfl⟩
      go_wp2_with fail
      go_roundw
      case rel => exact .inr ⟨by go_num, Lib.hid ((HB.out.set k (.int .i64 (v + x))).below ((Below.refl _ _).alloc (Nat.le_refl _) _)), (But.set wr B k _).step (But.of_below B ((Below.refl _ _).alloc (Nat.le_refl _) _))⟩
      case measure => simp [intOf]
    · have hk2 : (l.set k (.int .i64 (v + x)))[k]? = some (.int .i64 (v + x)) := by rw [List.getElem?_set_self]; exact (List.getElem?_eq_some_iff.1 HK.out).1
      have c2 := HB2.out.cell k _ hk2
      go_wp2_with fail
      go_ret
      exact ⟨rfl, HB2.out, hb2⟩
theorem go_is (B k g : Nat) (v x : Int) (l : List Value) (w : World) (hB : Bl B l w) (hk : l[k]? = some (.int .i64 v)) (hv : 0 ≤ v ∧ v ≤ 1000000) (hx : 1 ≤ x ∧ x ≤ 1000) (hs : w.cell? ⟨g, 0, none⟩ = some (.int .i64 x)) :
    Calls Try.prog 25 #[.pointer (some ⟨B, k, none⟩), .slice (some ⟨g, 0, none⟩) 1 1] w fun e w' => ∃ r, e = .returned (.int .i64 r) ∧ Bl B (l.set k (.int .i64 (hold2 (v + x)))) w' ∧ But w w' B := by
  unfold hold2
  by_cases h : 1000000 - v < x
  · rw [if_pos (by omega)]
    exact (go_over B k g v x l w hB hk hv hx h hs).mono fun e w' ⟨h1, h2, h3⟩ => ⟨_, h1, h2, h3⟩
  · rw [if_neg (by omega)]
    exact (go_under B k g v x l w hB hk hv hx h hs).mono fun e w' ⟨h1, h2, h3⟩ => ⟨_, h1, h2, h3⟩
end Go.Proofs.Ytgakgnofflnjoaa

/-
  Terms drawn from a source.
-/
import Derived.Test.YtgakgnofflnjoaaRows
import Derived.Test.YtgakgnofflnjoaaKit
import Derived.Test.YtgakgnofflnjoaaQuiet
import Derived.Test.YtgakgnofflnjoaaSt
import Derived.WalkKit
import Derived.ProofKit
import Derived.OpenShut
import Derived.ShutString
import Derived.Below
import Derived.Outline
import Derived.WalkLawsBesides
import Derived.WalkSpells
import Derived.Handy
import Derived.Deep.QuietTactic
import Derived.BigQuiet
import Derived.RegionTactic
import Derived.ChangeAlike
import Derived.Lib.Hide
import Derived.Laws.Rows
import Derived.Laws.Tables
import Derived.Laws.CopyOwn
import Derived.Laws.MakeOwn
import Derived.Laws.Entries
import Derived.Laws.OwnMore
import Derived.Deep.WholeRow
import Derived.Deep.LoopGhost
import Derived.Deep.AppendLies
import Derived.Deep.Draws
import Derived.Maps.AppendAt
import Derived.OwnWalk
import Derived.Deep.RegionHeld3
import Derived.Deep.Cut
import Derived.Deep.CutRange
import Derived.Deep.DeepCutAuto
import Derived.Deep.CutBlock
import Derived.Lib.SliceRun
import Derived.IntWalk
import Derived.Deep.RegionWith
namespace Go.Proofs.Ytgakgnofflnjoaa
open Go.ChangeShapes Go.WideShapes Go.ChangeAt Go.RowKit
/-- A source in block b has drawn up to N; all else that was there stays. -/
structure Src (w w' : World) (b : Nat) (N : Int) : Prop where
  c : w'.cell? ⟨b, 0, none⟩ = some (.int .u64 N)
  f : w'.frozen? ⟨b, 0, none⟩ = false
  os : w'.os = w.os
  tape : w'.tape = w.tape
  output : w'.output = w.output
  size : w.heap.size ≤ w'.heap.size
  o : ∀ k, k < w.heap.size → k ≠ b → w'.heap[k]? = w.heap[k]?
theorem Src.refl {w : World} {b : Nat} {N : Int} (hc : w.cell? ⟨b, 0, none⟩ = some (.int .u64 N)) (hf : w.frozen? ⟨b, 0, none⟩ = false) : Src w w b N := ⟨hc, hf, rfl, rfl, rfl, Nat.le_refl _, fun _ _ _ => rfl⟩
theorem Src.step {w w1 w2 : World} {b : Nat} {N M : Int} (h : Src w w1 b N) (k : Src w1 w2 b M) : Src w w2 b M :=
  ⟨k.c, k.f, k.os.trans h.os, k.tape.trans h.tape, k.output.trans h.output, Nat.le_trans h.size k.size, fun i hi hne => (k.o i (Nat.lt_of_lt_of_le hi h.size) hne).trans (h.o i hi hne)⟩
theorem lt_of_cell {w : World} {b : Nat} {o : Nat} {v : Value} (hc : w.cell? ⟨b, o, none⟩ = some v) : b < w.heap.size := by
  rcases Nat.lt_or_ge b w.heap.size with h | h
  · exact h
  · simp [World.cell?, Array.getElem?_eq_none h] at hc
/-- A draw from it. -/
theorem Src.drew1 {w w1 w2 : World} {b : Nat} {N : Int} {v : Value} {e : Ending} (h : Src w w1 b N) (hD : Drew w1 b N v e w2) : Src w w2 b (nx N) := by
  obtain ⟨_, rfl⟩ := hD
  have hbl := lt_of_cell h.c
  have hf0 := h.f
  obtain ⟨cs, t, fr, hh, hsz⟩ : ∃ cs t fr, w1.heap[b]? = some (.cells cs t fr) ∧ 0 < cs.size := by
    have hc := h.c
    rcases hb : w1.heap[b]? with _ | ob
    · simp [World.cell?, hb] at hc
    · cases ob with
      | cells cs t fr =>
        refine ⟨cs, t, fr, rfl, ?_⟩
        simp [World.cell?, hb] at hc
        rcases Nat.eq_zero_or_pos cs.size with h0 | h0
        · rw [Array.getElem?_eq_none (by omega)] at hc; cases hc
        · exact h0
      | _ => simp [World.cell?, hb] at hc
  refine ⟨?_, ?_, ?_, ?_, ?_, ?_, ?_⟩
  · simp [World.cell?, World.setCell, Array.getElem?_modify, hh, hsz]
  · simp [World.frozen?, World.setCell, Array.getElem?_modify, hh] at hf0 ⊢
    exact hf0
  · exact h.os
  · exact h.tape
  · exact h.output
  · simpa using h.size
  · intro k hk hne
    exact (Below.heap_setCell w1 ⟨b, 0, none⟩ (.int .u64 (nx N)) k hne).trans (h.o k hk hne)
theorem Src.keep {w w1 w2 : World} {b : Nat} {N : Int} (h : Src w w1 b N) (hb : Below w1.heap.size w1 w2) : Src w w2 b N := by
  have hbl := lt_of_cell h.c
  exact ⟨(hb.cell (p := ⟨b, 0, none⟩) hbl).trans h.c, (hb.frozen (p := ⟨b, 0, none⟩) hbl).trans h.f, hb.os.trans h.os, hb.tape.trans h.tape, hb.output.trans h.output, Nat.le_trans h.size hb.size, fun k hk hne => (hb.block k (Nat.lt_of_lt_of_le hk h.size)).trans (h.o k hk hne)⟩
theorem Src.far {w w1 : World} {b : Nat} {N : Int} (h : Src w w1 b N) {p : Addr} (hp : w.heap.size ≤ p.block) (hne : p.block ≠ b) (u : Value) : Src w (w1.setCell p u) b N := by
  refine ⟨?_, ?_, h.os, h.tape, h.output, by simpa using h.size, fun k hk hk2 => ?_⟩
  · rw [World.cell?_setCell_other _ _ _ _ (fun e => hne (by rw [e]))]; exact h.c
  · have h1 : (w1.setCell p u).heap[b]? = w1.heap[b]? := Below.heap_setCell w1 p u b (fun e => hne e.symm)
    rw [show (w1.setCell p u).frozen? ⟨b, 0, none⟩ = w1.frozen? ⟨b, 0, none⟩ from World.frozen?_of_block h1]; exact h.f
  · exact (Below.heap_setCell w1 p u k (fun e => by omega)).trans (h.o k hk hk2)
theorem Src.other {w w1 : World} {b : Nat} {N : Int} (h : Src w w1 b N) {B o : Nat} (hB : B < w.heap.size) (hne : B ≠ b) : w1.cell? ⟨B, o, none⟩ = w.cell? ⟨B, o, none⟩ := World.cell?_of_block (h.o B hB hne)
theorem Src.otherF {w w1 : World} {b : Nat} {N : Int} (h : Src w w1 b N) {B o : Nat} (hB : B < w.heap.size) (hne : B ≠ b) : w1.frozen? ⟨B, o, none⟩ = w.frozen? ⟨B, o, none⟩ := World.frozen?_of_block (h.o B hB hne)
theorem below_src (b : Nat) (N k : Int) (w w1 : World) (hk1 : k ≤ 9223372036854775807) (h : Src w w1 b N) : Calls Try.prog 22 #[.pointer (some ⟨b, 0, none⟩), .int .i64 k] w1 fun e w' => e = .returned (.int .i64 (bl (nx N) k)) ∧ Src w1 w' b (nx N) :=
  (below40 b N k w1 hk1 h.c h.f).mono fun _ _ hD => ⟨hD.1, (Src.refl h.c h.f).drew1 hD⟩
def hold3 (x : Int) : Int := if x < 1 then 1 else if 9999 < x then 9999 else x
/-- A block of cells. -/
def Bl (B : Nat) (l : List Value) (w : World) : Prop := ∃ t, w.heap[B]? = some (.cells l.toArray t (0, 0))
theorem Bl.lt {B : Nat} {l : List Value} {w : World} (h : Bl B l w) : B < w.heap.size := by
  obtain ⟨t, hh⟩ := h
  exact (Array.getElem?_eq_some_iff.1 hh).1
theorem Bl.cell {B : Nat} {l : List Value} {w : World} (h : Bl B l w) (j : Nat) (u : Value) (hu : l[j]? = some u) : w.cell? ⟨B, j, none⟩ = some u := by
  obtain ⟨t, hh⟩ := h
  rw [cell_of_row _ _ _ _ _ _ hh]; simpa using hu
theorem Bl.frz {B : Nat} {l : List Value} {w : World} (h : Bl B l w) (j : Nat) : w.frozen? ⟨B, j, none⟩ = false := by
  obtain ⟨t, hh⟩ := h
  simp [World.frozen?, hh]
theorem Bl.new (w : World) (cs : List Value) (t : TypeId) : Bl w.heap.size cs (w.alloc (.cells cs.toArray t)) := ⟨t, heap_alloc_new w (.cells cs.toArray t)⟩
theorem Bl.below {B : Nat} {l : List Value} {w w' : World} (h : Bl B l w) (hb : Below w.heap.size w w') : Bl B l w' := by
  have hl := h.lt
  obtain ⟨t, hh⟩ := h
  exact ⟨t, (hb.block B hl).trans hh⟩
theorem Bl.src {B b : Nat} {N : Int} {l : List Value} {w w' : World} (h : Bl B l w) (k : Src w w' b N) (hne : B ≠ b) : Bl B l w' := by
  have hl := h.lt
  obtain ⟨t, hh⟩ := h
  exact ⟨t, (k.o B hl hne).trans hh⟩
theorem Bl.far {B : Nat} {l : List Value} {w : World} (h : Bl B l w) {p : Addr} (hne : p.block ≠ B) (u : Value) : Bl B l (w.setCell p u) := by
  obtain ⟨t, hh⟩ := h
  exact ⟨t, (Below.heap_setCell w p u B (fun e => hne e.symm)).trans hh⟩
theorem Bl.set {B : Nat} {l : List Value} {w : World} (h : Bl B l w) (j : Nat) (u : Value) : Bl B (l.set j u) (w.setCell ⟨B, j, none⟩ u) := by
  obtain ⟨t, hh⟩ := h
  refine ⟨t, ?_⟩
  simp [World.setCell, Array.getElem?_modify, hh]
def hold2 (x : Int) : Int := if 1000000 < x then 1000000 else x
end Go.Proofs.Ytgakgnofflnjoaa

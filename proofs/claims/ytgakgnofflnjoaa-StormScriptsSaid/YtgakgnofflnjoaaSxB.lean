/-
  A storm's writer: its state.
-/
import Derived.Test.YtgakgnofflnjoaaRows
import Derived.Test.YtgakgnofflnjoaaKit
import Derived.Test.YtgakgnofflnjoaaApp
import Derived.Test.YtgakgnofflnjoaaQuiet
import Derived.Test.YtgakgnofflnjoaaSt
import Derived.Test.YtgakgnofflnjoaaStA
import Derived.Test.YtgakgnofflnjoaaStT
import Derived.Test.YtgakgnofflnjoaaStK
import Derived.Test.YtgakgnofflnjoaaStR
import Derived.Test.YtgakgnofflnjoaaStL
import Derived.Test.YtgakgnofflnjoaaStS
import Derived.Test.YtgakgnofflnjoaaStM
import Derived.Test.YtgakgnofflnjoaaStV
import Derived.Test.YtgakgnofflnjoaaStD
import Derived.Test.YtgakgnofflnjoaaSxP
import Derived.Test.YtgakgnofflnjoaaSxA
import Derived.WalkKit
import Derived.ProofKit
import Derived.OpenShut
import Derived.ShutString
import Derived.Below
import Derived.Outline
import Derived.WalkLawsBesides
import Derived.WalkSpells
import Derived.Handy
import Derived.Deep.QuietTactic
import Derived.BigQuiet
import Derived.RegionTactic
import Derived.ChangeAlike
import Derived.Lib.Hide
import Derived.Laws.Rows
import Derived.Laws.Tables
import Derived.Laws.CopyOwn
import Derived.Laws.MakeOwn
import Derived.Laws.Entries
import Derived.Laws.OwnMore
import Derived.Deep.WholeRow
import Derived.Deep.LoopGhost
import Derived.Deep.AppendLies
import Derived.Deep.Draws
import Derived.Maps.AppendAt
import Derived.OwnWalk
import Derived.Deep.RegionHeld3
import Derived.Deep.Cut
import Derived.Deep.CutRange
import Derived.Deep.DeepCutAuto
import Derived.Deep.CutBlock
import Derived.Lib.SliceRun
import Derived.IntWalk
namespace Go.Proofs.Ytgakgnofflnjoaa
open Go.ChangeShapes Go.WideShapes Go.ChangeAt Go.RowKit
/-- Events' cells. -/
def lv (L : List (List Int)) : List Value := L.flatten.map (Value.int .i64)
theorem lv_snoc (L : List (List Int)) (x : List Int) : lv (L ++ [x]) = lv L ++ x.map (Value.int .i64) := by
  unfold lv
  rw [List.flatten_append, List.map_append]
  congr 1
  simp
def wcl (S I np : Nat) (p c n b r f g ma mt md ms mp mw now most : Int) (v : Value) : List Value := [.int .i64 p, .int .i64 c, .int .i64 n, .int .i64 b, .int .i64 r, .int .i64 f, .int .i64 g, .pointer (some ⟨S, 0, none⟩), .int .i64 ma, .int .i64 mt, .int .i64 md, .int .i64 ms, .int .i64 mp, .int .i64 mw, .slice (some ⟨I, 0, none⟩) np np, .int .i64 now, .int .i64 most, v]
structure Far (w : World) (B S I K : Nat) : Prop where
  wB : w.heap.size ≤ B
  wS : w.heap.size ≤ S
  wI : w.heap.size ≤ I
  kB : B < K
  kS : S < K
  kI : I < K
  bs : B ≠ S
  bi : B ≠ I
  si : S ≠ I
/-- A writer, and what it holds. -/
structure WS (w wr : World) (B S I K np : Nat) (p c n b r f g ma mt md ms mp mw most N now : Int) (ids : Nat → Nat) (v : Value) (L : List (List Int)) : Prop where
  blk : Bl B (wcl S I np p c n b r f g ma mt md ms mp mw now most v) wr
  sc : wr.cell? ⟨S, 0, none⟩ = some (.int .u64 N)
  sf : wr.frozen? ⟨S, 0, none⟩ = false
  ids : Cts wr I np ids
  row : wr.ownsRow K 47 12 v L.length (lv L)
  bel : Below w.heap.size w wr
  hK : K ≤ wr.heap.size
section
variable {w wr w' : World} {B S I K np : Nat} {p c n b r f g ma mt md ms mp mw most N now : Int} {ids : Nat → Nat} {v : Value} {L : List (List Int)}
theorem WS.below (h : WS w wr B S I K np p c n b r f g ma mt md ms mp mw most N now ids v L) (hd : Far w B S I K) (hb : Below wr.heap.size wr w') : WS w w' B S I K np p c n b r f g ma mt md ms mp mw most N now ids v L := by
  have hS : S < wr.heap.size := Nat.lt_of_lt_of_le hd.kS h.hK
  exact ⟨h.blk.below hb, (hb.cell (p := ⟨S, 0, none⟩) hS).trans h.sc, (hb.frozen (p := ⟨S, 0, none⟩) hS).trans h.sf, h.ids.below hb, row_kept h.row hb, Below.step h.bel hb, Nat.le_trans h.hK hb.size⟩
theorem row_far {base : Nat} {e : TypeId} {size m : Nat} {u : Value} {xs : List Value} (h : wr.ownsRow base e size u m xs) (hk : ∀ k, base ≤ k → k < wr.heap.size → w'.heap[k]? = wr.heap[k]?) : w'.ownsRow base e size u m xs := by
  refine ⟨h.1, ?_⟩
  rcases h.2 with h0 | ⟨g, cap, cur, hv, hg, hgh, hr⟩
  · exact .inl h0
  · have hlt : g < wr.heap.size := by
      rcases Nat.lt_or_ge g wr.heap.size with hlt | hge
      · exact hlt
      · rw [Array.getElem?_eq_none hge] at hgh; cases hgh
    exact .inr ⟨g, cap, cur, hv, hg, (hk g hg hlt).trans hgh, hr⟩
/-- The source has drawn. -/
theorem WS.src {M : Int} (h : WS w wr B S I K np p c n b r f g ma mt md ms mp mw most N now ids v L) (hd : Far w B S I K) (hs : Src wr w' S M) : WS w w' B S I K np p c n b r f g ma mt md ms mp mw most M now ids v L := by
  have hI := h.ids
  refine ⟨h.blk.src hs hd.bs, hs.c, hs.f, ?_, row_far h.row fun k hk hl => hs.o k hl (by have := hd.kS; omega), ⟨hs.os.trans h.bel.os, hs.tape.trans h.bel.tape, hs.output.trans h.bel.output, Nat.le_trans h.bel.size hs.size, fun k hk => (hs.o k (Nat.lt_of_lt_of_le hk h.bel.size) (by have := hd.wS; omega)).trans (h.bel.block k hk)⟩, Nat.le_trans h.hK hs.size⟩
  obtain ⟨cs, h1, h2, h3⟩ := h.ids
  exact ⟨cs, (hs.o I (blk_lt h1) (fun e => hd.si e.symm)).trans h1, h2, h3⟩
/-- The clock has gone. -/
theorem WS.clk {x : Int} (h : WS w wr B S I K np p c n b r f g ma mt md ms mp mw most N now ids v L) (hd : Far w B S I K) (hb : Bl B ((wcl S I np p c n b r f g ma mt md ms mp mw now most v).set 15 (.int .i64 x)) w') (ho : But wr w' B) : WS w w' B S I K np p c n b r f g ma mt md ms mp mw most N x ids v L := by
  have hS : S < wr.heap.size := Nat.lt_of_lt_of_le hd.kS h.hK
  refine ⟨hb, (World.cell?_of_block (a := ⟨S, 0, none⟩) (ho.o S hS (fun e => hd.bs e.symm))).trans h.sc, (World.frozen?_of_block (a := ⟨S, 0, none⟩) (ho.o S hS (fun e => hd.bs e.symm))).trans h.sf, ?_, row_far h.row fun k hk hl => ho.o k hl (by have := hd.kB; omega), ⟨ho.os.trans h.bel.os, ho.tape.trans h.bel.tape, ho.output.trans h.bel.output, Nat.le_trans h.bel.size ho.size, fun k hk => (ho.o k (Nat.lt_of_lt_of_le hk h.bel.size) (by have := hd.wB; omega)).trans (h.bel.block k hk)⟩, Nat.le_trans h.hK ho.size⟩
  obtain ⟨cs, h1, h2, h3⟩ := h.ids
  exact ⟨cs, (ho.o I (blk_lt h1) (fun e => hd.bi e.symm)).trans h1, h2, h3⟩
/-- Behind an append: what lies below the rows stays. -/
theorem WS.app_low {w2 : World} {o : Obj} (h : WS w wr B S I K np p c n b r f g ma mt md ms mp mw most N now ids v L) (hg : (wr.alloc o).grownBy w2 v.ownBlock) : Below K wr w2 :=
  Below.grown ((Below.refl _ _).alloc h.hK o) hg (by rw [World.size_alloc]; have := h.hK; omega) fun k e => (h.row.lt k e).1
/-- An event is laid behind the others. -/
theorem WS.push {w2 : World} {o : Obj} {u : Value} {x : List Int} (h : WS w wr B S I K np p c n b r f g ma mt md ms mp mw most N now ids v L) (hd : Far w B S I K) (ho : w2.ownsRow K 47 12 u (L.length + 1) (lv L ++ x.map (Value.int .i64))) (hg : (wr.alloc o).grownBy w2 v.ownBlock) : WS w (w2.setCell ⟨B, 17, none⟩ u) B S I K np p c n b r f g ma mt md ms mp mw most N now ids u (L ++ [x]) := by
  have hb := h.app_low hg
  have hB : B < K := hd.kB
  have hS : S < K := hd.kS
  have hbl : Bl B (wcl S I np p c n b r f g ma mt md ms mp mw now most v) w2 := by
    obtain ⟨t, ht⟩ := h.blk
    exact ⟨t, (hb.block B hB).trans ht⟩
  have hs : (w2.setCell ⟨B, 17, none⟩ u).heap.size = w2.heap.size := by simp
  refine ⟨hbl.set 17 u, ?_, ?_, ?_, ?_, ?_, by rw [hs]; exact Nat.le_trans h.hK hb.size⟩
  · exact (World.cell?_of_block (a := ⟨S, 0, none⟩) (Below.heap_setCell w2 ⟨B, 17, none⟩ u S (fun e => hd.bs e.symm))).trans ((hb.cell (p := ⟨S, 0, none⟩) hS).trans h.sc)
  · exact (World.frozen?_of_block (a := ⟨S, 0, none⟩) (Below.heap_setCell w2 ⟨B, 17, none⟩ u S (fun e => hd.bs e.symm))).trans ((hb.frozen (p := ⟨S, 0, none⟩) hS).trans h.sf)
  · obtain ⟨cs, h1, h2, h3⟩ := h.ids
    exact ⟨cs, (Below.heap_setCell w2 ⟨B, 17, none⟩ u I (fun e => hd.bi e.symm)).trans ((hb.block I hd.kI).trans h1), h2, h3⟩
  · rw [List.length_append, lv_snoc]
    exact row_far ho fun k hk hl => Below.heap_setCell w2 ⟨B, 17, none⟩ u k (by show k ≠ B; omega)
  · exact (h.bel.trans (hb.mono (by have := hd.wB; omega))).setCell (p := ⟨B, 17, none⟩) hd.wB u
end
end Go.Proofs.Ytgakgnofflnjoaa

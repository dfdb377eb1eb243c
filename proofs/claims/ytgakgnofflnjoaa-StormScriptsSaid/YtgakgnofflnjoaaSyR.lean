/-
  The document's script: its state.
-/
import Derived.Test.YtgakgnofflnjoaaRows
import Derived.Test.YtgakgnofflnjoaaKit
import Derived.Test.YtgakgnofflnjoaaApp
import Derived.Test.YtgakgnofflnjoaaQuiet
import Derived.Test.YtgakgnofflnjoaaSt
import Derived.Test.YtgakgnofflnjoaaStA
import Derived.Test.YtgakgnofflnjoaaStT
import Derived.Test.YtgakgnofflnjoaaStK
import Derived.Test.YtgakgnofflnjoaaStR
import Derived.Test.YtgakgnofflnjoaaStL
import Derived.Test.YtgakgnofflnjoaaStM
import Derived.Test.YtgakgnofflnjoaaStS
import Derived.Test.YtgakgnofflnjoaaStV
import Derived.Test.YtgakgnofflnjoaaStD
import Derived.Test.YtgakgnofflnjoaaSxP
import Derived.Test.YtgakgnofflnjoaaSxA
import Derived.Test.YtgakgnofflnjoaaSxB
import Derived.Test.YtgakgnofflnjoaaSxT
import Derived.Test.YtgakgnofflnjoaaSxK
import Derived.Test.YtgakgnofflnjoaaSxM
import Derived.WalkKit
import Derived.ProofKit
import Derived.OpenShut
import Derived.ShutString
import Derived.Below
import Derived.Outline
import Derived.WalkLawsBesides
import Derived.WalkSpells
import Derived.Handy
import Derived.Deep.QuietTactic
import Derived.BigQuiet
import Derived.RegionTactic
import Derived.ChangeAlike
import Derived.Lib.Hide
import Derived.Laws.Rows
import Derived.Laws.Tables
import Derived.Laws.CopyOwn
import Derived.Laws.MakeOwn
import Derived.Laws.Entries
import Derived.Laws.OwnMore
import Derived.Deep.WholeRow
import Derived.Deep.LoopGhost
import Derived.Deep.AppendLies
import Derived.Deep.Draws
import Derived.Maps.AppendAt
import Derived.OwnWalk
import Derived.Deep.RegionHeld3
import Derived.Deep.Cut
import Derived.Deep.CutRange
import Derived.Deep.DeepCutAuto
import Derived.Deep.CutBlock
import Derived.Lib.SliceRun
import Derived.IntWalk
namespace Go.Proofs.Ytgakgnofflnjoaa
open Go.ChangeShapes Go.WideShapes Go.ChangeAt Go.RowKit
structure FarR (w : World) (C M S I K : Nat) : Prop where
  wC : w.heap.size ≤ C
  wM : w.heap.size ≤ M
  wS : w.heap.size ≤ S
  wI : w.heap.size ≤ I
  kC : C < K
  kM : M < K
  kS : S < K
  kI : I < K
  cs : C ≠ S
  ci : C ≠ I
  ms : M ≠ S
  mi : M ≠ I
  si : S ≠ I
/-- What the document's script holds. -/
structure RS (w wr : World) (C M S I K np : Nat) (p c n b r f g ma mt md ms mp mw N : Int) (ids : Nat → Nat) (v : Value) (L : List (List Int)) : Prop where
  bc : Bl C [.int .i64 p, .int .i64 c, .int .i64 n, .int .i64 b, .int .i64 r, .int .i64 f, .int .i64 g] wr
  bm : Bl M [.int .i64 ma, .int .i64 mt, .int .i64 md, .int .i64 ms, .int .i64 mp, .int .i64 mw] wr
  sc : wr.cell? ⟨S, 0, none⟩ = some (.int .u64 N)
  sf : wr.frozen? ⟨S, 0, none⟩ = false
  ids : Cts wr I np ids
  row : wr.ownsRow K 67 12 v L.length (lv L)
  bel : Below w.heap.size w wr
  hK : K ≤ wr.heap.size
section
variable {w wr w' : World} {C M S I K np : Nat} {p c n b r f g ma mt md ms mp mw N : Int} {ids : Nat → Nat} {v : Value} {L : List (List Int)}
theorem RS.below (h : RS w wr C M S I K np p c n b r f g ma mt md ms mp mw N ids v L) (hd : FarR w C M S I K) (hb : Below wr.heap.size wr w') : RS w w' C M S I K np p c n b r f g ma mt md ms mp mw N ids v L := by
  have hS : S < wr.heap.size := Nat.lt_of_lt_of_le hd.kS h.hK
  exact ⟨h.bc.below hb, h.bm.below hb, (hb.cell (p := ⟨S, 0, none⟩) hS).trans h.sc, (hb.frozen (p := ⟨S, 0, none⟩) hS).trans h.sf, h.ids.below hb, row_kept h.row hb, Below.step h.bel hb, Nat.le_trans h.hK hb.size⟩
theorem RS.src {N' : Int} (h : RS w wr C M S I K np p c n b r f g ma mt md ms mp mw N ids v L) (hd : FarR w C M S I K) (hs : Src wr w' S N') : RS w w' C M S I K np p c n b r f g ma mt md ms mp mw N' ids v L := by
  refine ⟨h.bc.src hs hd.cs, h.bm.src hs hd.ms, hs.c, hs.f, ?_, row_far h.row fun k hk hl => hs.o k hl (by have := hd.kS; omega), ⟨hs.os.trans h.bel.os, hs.tape.trans h.bel.tape, hs.output.trans h.bel.output, Nat.le_trans h.bel.size hs.size, fun k hk => (hs.o k (Nat.lt_of_lt_of_le hk h.bel.size) (by have := hd.wS; omega)).trans (h.bel.block k hk)⟩, Nat.le_trans h.hK hs.size⟩
  obtain ⟨cs, h1, h2, h3⟩ := h.ids
  exact ⟨cs, (hs.o I (blk_lt h1) (fun e => hd.si e.symm)).trans h1, h2, h3⟩
theorem RS.bump {u x : Nat} (h : RS w wr C M S I K np p c n b r f g ma mt md ms mp mw N ids v L) (hd : FarR w C M S I K) (hu : u < np) : RS w (wr.setCell ⟨I, u, none⟩ (.int .i64 (x : Int))) C M S I K np p c n b r f g ma mt md ms mp mw N (fun i => if i = u then x else ids i) v L := by
  have hk : ∀ k, k ≠ I → (wr.setCell ⟨I, u, none⟩ (.int .i64 (x : Int))).heap[k]? = wr.heap[k]? := fun k hk => Below.heap_setCell wr ⟨I, u, none⟩ _ k hk
  exact ⟨h.bc.far (p := ⟨I, u, none⟩) (fun e => hd.ci e.symm) _, h.bm.far (p := ⟨I, u, none⟩) (fun e => hd.mi e.symm) _, (World.cell?_of_block (a := ⟨S, 0, none⟩) (hk S hd.si)).trans h.sc, (World.frozen?_of_block (a := ⟨S, 0, none⟩) (hk S hd.si)).trans h.sf, h.ids.set u hu x, row_far h.row fun k h1 _ => hk k (by have := hd.kI; omega), h.bel.setCell (p := ⟨I, u, none⟩) hd.wI _, by simpa using h.hK⟩
theorem RS.app_low {w2 : World} {o : Obj} (h : RS w wr C M S I K np p c n b r f g ma mt md ms mp mw N ids v L) (hg : (wr.alloc o).grownBy w2 v.ownBlock) : Below K wr w2 :=
  Below.grown ((Below.refl _ _).alloc h.hK o) hg (by rw [World.size_alloc]; have := h.hK; omega) fun k e => (h.row.lt k e).1
theorem RS.push {w2 : World} {o : Obj} {u : Value} {x : List Int} (h : RS w wr C M S I K np p c n b r f g ma mt md ms mp mw N ids v L) (hd : FarR w C M S I K) (ho : w2.ownsRow K 67 12 u (L.length + 1) (lv L ++ x.map (Value.int .i64))) (hg : (wr.alloc o).grownBy w2 v.ownBlock) : RS w w2 C M S I K np p c n b r f g ma mt md ms mp mw N ids u (L ++ [x]) := by
  have hb := h.app_low hg
  refine ⟨?_, ?_, (hb.cell (p := ⟨S, 0, none⟩) hd.kS).trans h.sc, (hb.frozen (p := ⟨S, 0, none⟩) hd.kS).trans h.sf, ?_, ?_, h.bel.trans (hb.mono (by have := hd.wC; have := hd.kC; omega)), Nat.le_trans h.hK hb.size⟩
  · obtain ⟨t, ht⟩ := h.bc
    exact ⟨t, (hb.block C hd.kC).trans ht⟩
  · obtain ⟨t, ht⟩ := h.bm
    exact ⟨t, (hb.block M hd.kM).trans ht⟩
  · obtain ⟨cs, h1, h2, h3⟩ := h.ids
    exact ⟨cs, (hb.block I hd.kI).trans h1, h2, h3⟩
  · rw [List.length_append, lv_snoc]
    exact ho
theorem own_take {e : TypeId} {A : Option Addr} {k m cp base : Nat} (h : w.ownsRow base e 12 (.slice A m cp) m (lv L)) (hk : k ≤ m) : w.ownsRow base e 12 (.slice A k cp) k ((lv L).take (k * 12)) := by
  have hl := h.1
  refine ⟨by rw [List.length_take, hl]; omega, ?_⟩
  rcases h.2 with ⟨h0, h1⟩ | ⟨g, cap, cur, hv, hg, hgh, hr1, hr2, hr3, hr4⟩
  · left
    have hm : m = 0 := h1
    have hk0 : k = 0 := by omega
    subst hm hk0
    exact ⟨h0, rfl⟩
  · right
    injection hv with hv1 hv2 hv3
    subst hv1 hv3
    refine ⟨g, cp, cur, rfl, hg, hgh, by omega, hr2, hr3, ?_⟩
    rw [← hr4, List.take_take, Nat.min_eq_left (Nat.mul_le_mul_right 12 hk)]
theorem flat_take : ∀ (L : List (List Int)) (k : Nat), (∀ x ∈ L, x.length = 12) → L.flatten.take (k * 12) = (L.take k).flatten
  | [], k, _ => by simp
  | x :: L, 0, _ => by simp
  | x :: L, k + 1, h => by
    have hx := h x (List.mem_cons_self ..)
    rw [List.flatten_cons, List.take_succ_cons, List.flatten_cons, List.take_append, hx, List.take_of_length_le (by omega), show (k + 1) * 12 - 12 = k * 12 from by omega, flat_take L k (fun y hy => h y (List.mem_cons_of_mem _ hy))]
theorem lv_take (L : List (List Int)) (k : Nat) (h : ∀ x ∈ L, x.length = 12) : (lv L).take (k * 12) = lv (L.take k) := by
  unfold lv
  rw [← List.map_take, flat_take L k h]
end
theorem stepM_12 (p c n b ma mt md ms mp mw : Int) (s : SM) : ∀ x ∈ (stepM p c n b ma mt md ms mp mw s).2, x.length = 12 := by
  intro x
  unfold stepM
  split
  · intro hx; obtain rfl := List.mem_singleton.1 hx; rfl
  · split
    · intro hx; obtain rfl := List.mem_singleton.1 hx; rfl
    · split
      · intro hx; obtain rfl := List.mem_singleton.1 hx; rfl
      · intro hx; obtain rfl := List.eq_of_mem_replicate hx; rfl
theorem itS_12 (p c n b ma mt md ms mp mw seed : Int) : ∀ k, ∀ x ∈ (itS p c n b ma mt md ms mp mw seed k).2, x.length = 12
  | 0 => fun x hx => by cases hx
  | k + 1 => fun x hx => by
    rcases List.mem_append.1 hx with h | h
    · exact itS_12 p c n b ma mt md ms mp mw seed k x h
    · exact stepM_12 _ _ _ _ _ _ _ _ _ _ _ x h
theorem infoR : (Try.prog.info? 67).map (fun i => (i.zero, i.size, i.bytes)) = some (some (.agg #[.int .i64 0, .int .i64 0, .int .i64 0, .int .i64 0, .int .i64 0, .int .i64 0, .int .i64 0, .int .i64 0, .int .i64 0, .int .i64 0, .int .i64 0, .int .i64 0]), 12, 96) := by kernel_rfl
theorem rs_start (p c n b r f g ma mt md ms mp mw seed : Int) (np : Nat) (w : World) : RS w ((((w.alloc (.cells (List.toArray [.int .i64 p, .int .i64 c, .int .i64 n, .int .i64 b, .int .i64 r, .int .i64 f, .int .i64 g]) 23)).alloc (.cells (List.toArray [.int .i64 ma, .int .i64 mt, .int .i64 md, .int .i64 ms, .int .i64 mp, .int .i64 mw]) 26)).alloc (.cells #[.int .u64 seed] 71)).alloc (.cells (madeCells #[Value.int .i64 0] np) 3)) w.heap.size (w.heap.size + 1) (w.heap.size + 2) (w.heap.size + 3) (w.heap.size + 4) np p c n b r f g ma mt md ms mp mw seed (fun _ => 0) (.slice none 0 0) [] := by
  have h1 := Bl.new w [.int .i64 p, .int .i64 c, .int .i64 n, .int .i64 b, .int .i64 r, .int .i64 f, .int .i64 g] 23
  have s1 : (w.alloc (.cells (List.toArray [.int .i64 p, .int .i64 c, .int .i64 n, .int .i64 b, .int .i64 r, .int .i64 f, .int .i64 g]) 23)).heap.size = w.heap.size + 1 := World.size_alloc ..
  have g1 : Below w.heap.size w (w.alloc (.cells (List.toArray [.int .i64 p, .int .i64 c, .int .i64 n, .int .i64 b, .int .i64 r, .int .i64 f, .int .i64 g]) 23)) := by go_grown
  generalize w.alloc (.cells (List.toArray [.int .i64 p, .int .i64 c, .int .i64 n, .int .i64 b, .int .i64 r, .int .i64 f, .int .i64 g]) 23) = w1 at *
  have h2 := Bl.new w1 [.int .i64 ma, .int .i64 mt, .int .i64 md, .int .i64 ms, .int .i64 mp, .int .i64 mw] 26
  have s2 : (w1.alloc (.cells (List.toArray [.int .i64 ma, .int .i64 mt, .int .i64 md, .int .i64 ms, .int .i64 mp, .int .i64 mw]) 26)).heap.size = w.heap.size + 2 := by rw [World.size_alloc, s1]
  have g2 : Below w1.heap.size w1 (w1.alloc (.cells (List.toArray [.int .i64 ma, .int .i64 mt, .int .i64 md, .int .i64 ms, .int .i64 mp, .int .i64 mw]) 26)) := by go_grown
  generalize w1.alloc (.cells (List.toArray [.int .i64 ma, .int .i64 mt, .int .i64 md, .int .i64 ms, .int .i64 mp, .int .i64 mw]) 26) = w2 at *
  have h3 := Bl.new w2 [.int .u64 seed] 71
  have s3 : (w2.alloc (.cells #[.int .u64 seed] 71)).heap.size = w.heap.size + 3 := by rw [World.size_alloc, s2]
  have g3 : Below w2.heap.size w2 (w2.alloc (.cells #[.int .u64 seed] 71)) := by go_grown
  generalize w2.alloc (.cells #[.int .u64 seed] 71) = w3 at *
  have s4 : (w3.alloc (.cells (madeCells #[Value.int .i64 0] np) 3)).heap.size = w.heap.size + 4 := by rw [World.size_alloc, s3]
  have g4 : Below w3.heap.size w3 (w3.alloc (.cells (madeCells #[Value.int .i64 0] np) 3)) := by go_grown
  have hI := heap_alloc_new w3 (.cells (madeCells #[Value.int .i64 0] np) 3)
  rw [s3] at hI
  rw [s1] at h2
  rw [s2] at h3
  refine ⟨((h1.below g2).below g3).below g4, (h2.below g3).below g4, (h3.below g4).cell 0 _ rfl, (h3.below g4).frz 0, ?_, ⟨rfl, .inl ⟨rfl, rfl⟩⟩, Below.step (Below.step (Below.step g1 g2) g3) g4, Nat.le_of_eq s4.symm⟩
  refine ⟨_, hI, by rw [size_madeCells], fun j hj => ?_⟩
  have h := toList_madeCells_one (.int .i64 0) np
  rw [← Array.getElem?_toList, h, List.getElem?_replicate, if_pos hj]
  rfl
theorem own_cap {w : World} {base : Nat} {e : TypeId} {size n c : Nat} {A : Option Addr} {xs : List Value} (h : w.ownsRow base e size (.slice A n c) n xs) : n ≤ c := by
  rcases h.2 with ⟨_, h1⟩ | ⟨g, cap, cur, hv, _, _, h1, _⟩
  · omega
  · injection hv with _ _ h3
    omega
theorem own_base {w : World} {base base' : Nat} {e : TypeId} {size n : Nat} {v : Value} {xs : List Value} (h : w.ownsRow base e size v n xs) (hb : base' ≤ base) : w.ownsRow base' e size v n xs := by
  refine ⟨h.1, ?_⟩
  rcases h.2 with h0 | ⟨g, cap, cur, hv, hg, r⟩
  · exact .inl h0
  · exact .inr ⟨g, cap, cur, hv, Nat.le_trans hb hg, r⟩
end Go.Proofs.Ytgakgnofflnjoaa

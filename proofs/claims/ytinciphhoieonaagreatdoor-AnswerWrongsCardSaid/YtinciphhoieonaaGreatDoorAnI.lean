/-
  A right reply's line is read as it was.
-/
import Derived.Test.YtinciphhoieonaaGreatDoorRows
import Derived.Test.YtinciphhoieonaaGreatDoorKit
import Derived.Test.YtinciphhoieonaaGreatDoorApp
import Derived.Test.YtinciphhoieonaaGreatDoorQuiet
import Derived.WalkKit
import Derived.ProofKit
import Derived.OpenShut
import Derived.ShutString
import Derived.Below
import Derived.Outline
import Derived.WalkLawsBesides
import Derived.WalkSpells
import Derived.Handy
import Derived.Deep.QuietTactic
import Derived.BigQuiet
import Derived.RegionTactic
import Derived.ChangeAlike
import Derived.Lib.Hide
import Derived.Laws.Rows
import Derived.Laws.Tables
import Derived.Laws.CopyOwn
import Derived.Laws.MakeOwn
import Derived.Laws.Entries
import Derived.Laws.OwnMore
import Derived.Deep.WholeRow
import Derived.Deep.LoopGhost
import Derived.Deep.AppendLies
import Derived.Deep.Draws
import Derived.Maps.AppendAt
import Derived.OwnWalk
import Derived.Deep.RegionHeld3
import Derived.Deep.Cut
import Derived.Deep.CutRange
import Derived.Deep.DeepCutAuto
import Derived.Deep.CutBlock
import Derived.Lib.SliceRun
import Derived.IntWalk
import Derived.Laws.Strings
import Derived.Lib.Bytealg
import Derived.Lib.Strings
import Derived.Laws.Externs
import Derived.Test.YtinciphhoieonaaGreatDoorAnF
import Derived.Test.YtinciphhoieonaaGreatDoorAnV
import Derived.Test.YtinciphhoieonaaGreatDoorAnT
import Derived.BigRegion
import Derived.Deep.MidRow
namespace Go.Proofs.YtinciphhoieonaaGreatDoor
open Go.ChangeShapes Go.WideShapes Go.ChangeAt Go.RowKit
/-- What a reader's walk has: its words, the result's cells, the reply's cells. -/
structure Rs (OB SB XB RB : Nat) (w0 : World) (ws : List (List UInt8)) (cs : List Value) (w : World) : Prop where
  rd : Rd XB SB ws w
  ob : Bl OB [.int .i64 0, .int .i64 0, .int .i64 0, .int .i64 0, .int .i64 0, .bool false, .int .i64 0, .int .i64 0, .int .i64 0, .int .i64 0, .int .i64 0, .int .i64 0, .slice none 0 0] w
  rb : Bl RB cs w
  bel : Below w0.heap.size w0 w
  o : w0.heap.size ≤ OB ∧ OB < SB ∧ SB < XB ∧ XB < RB
theorem Rs.call {OB SB XB RB : Nat} {w0 w w' : World} {ws ws' : List (List UInt8)} {cs : List Value} (h : Rs OB SB XB RB w0 ws cs w) (hr : Rd XB SB ws' w') (hk : Kp XB w w') : Rs OB SB XB RB w0 ws' cs w' :=
  ⟨hr, h.ob.kp hk (by have := h.o; omega), h.rb.kp hk (by have := h.o; omega), Kp.bel h.bel hk (by have := h.o; omega), h.o⟩
theorem Rs.set {OB SB XB RB : Nat} {w0 w : World} {ws : List (List UInt8)} {cs : List Value} (h : Rs OB SB XB RB w0 ws cs w) (j : Nat) (u : Value) : Rs OB SB XB RB w0 ws (cs.set j u) (w.setCell ⟨RB, j, none⟩ u) :=
  ⟨h.rd.kp (Kp.set0 RB j w u) (by have := h.o; omega) (by have := h.o; omega), Bl.far h.ob (p := ⟨RB, j, none⟩) (fun e => by have := h.o; have h3 : RB = OB := e; omega) u, Bl.set h.rb j u, Below.setCell (p := ⟨RB, j, none⟩) h.bel (by have := h.o; show w0.heap.size ≤ RB; omega) u, h.o⟩
theorem Rs.vb {OB SB XB RB : Nat} {w0 w : World} {ws : List (List UInt8)} {cs : List Value} (h : Rs OB SB XB RB w0 ws cs w) (hv : Vb w0) : ∀ wx, Kp XB w wx → Vb wx := fun wx hk => by
  have hb := Kp.bel h.bel hk (by have := h.o; omega)
  exact hv.below hb
theorem aw_small (r : Rp) (h : Rt r) (hcd : r.cd ≤ 9223372036854775807) : ∀ y ∈ aw r, y.length ≤ 19 := by
  have ht := h.t
  have hi := h.i
  have hc := h.c
  have hk := h.k
  intro y hy
  unfold aw at hy
  rw [List.mem_cons, List.mem_cons, List.mem_append, List.mem_append] at hy
  rcases hy with rfl | rfl | hy | hy | hy
  · exact dcl_int_len (by omega)
  · rcases (show r.k = 1 ∨ r.k = 2 ∨ r.k = 3 ∨ r.k = 4 by omega) with h | h | h | h <;> rw [h] <;> decide
  · split at hy
    · simp only [List.mem_cons, List.not_mem_nil, or_false] at hy
      subst hy; exact dcl_int_len (by omega)
    · cases hy
  · split at hy
    · simp only [List.mem_cons, List.not_mem_nil, or_false] at hy
      subst hy; exact dcl_int_len (by omega)
    · cases hy
  · exact tl_small r h hcd y hy
theorem jl_short (r : Rp) (h : Rt r) (hl : r.L.length ≤ 1000) (hcd : r.cd ≤ 9223372036854775807) : (jl (aw r)).length < 100000 := by
  have h1 := aw_small r h hcd
  have h2 := (aw_len r h hl hcd).2.1
  have e : ∃ x L, aw r = x :: L := ⟨_, _, rfl⟩
  obtain ⟨x, L, e⟩ := e
  rw [e] at h1 h2 ⊢
  have h3 := join_le 19 L x h1
  rw [List.length_cons] at h2
  show (Lib.join (x :: L) [32]).length < 100000
  omega
theorem rs_start (w : World) (x : List UInt8) (M : List (List UInt8)) (hl : (x :: M).length < 4000000000) (SV : List Value) (AN : Nat) (hSV : SV = (x :: M).map fun l => Value.string (Bs l)) (hAN : AN = (x :: M).length) : Rs w.heap.size (w.heap.size + 1) (w.heap.size + 1 + 1) (w.heap.size + 1 + 1 + 1) w (x :: M) [.int .i64 0, .int .i64 0, .int .i64 0, .int .i64 0, .int .i64 0, .bool false, .int .i64 0, .int .i64 0, .int .i64 0, .int .i64 0, .int .i64 0, .int .i64 0, .slice none 0 0] ((((w.alloc (.cells (List.toArray [.int .i64 0, .int .i64 0, .int .i64 0, .int .i64 0, .int .i64 0, .bool false, .int .i64 0, .int .i64 0, .int .i64 0, .int .i64 0, .int .i64 0, .int .i64 0, .slice none 0 0]) 27)).alloc (.cells (List.toArray SV) 9)).alloc (.cells #[.slice (some ⟨w.heap.size + 1, 0, none⟩) AN AN] 90)).alloc (.cells (List.toArray [.int .i64 0, .int .i64 0, .int .i64 0, .int .i64 0, .int .i64 0, .bool false, .int .i64 0, .int .i64 0, .int .i64 0, .int .i64 0, .int .i64 0, .int .i64 0, .slice none 0 0]) 27)) := by
  subst hAN
  have bO := Bl.new w [.int .i64 0, .int .i64 0, .int .i64 0, .int .i64 0, .int .i64 0, .bool false, .int .i64 0, .int .i64 0, .int .i64 0, .int .i64 0, .int .i64 0, .int .i64 0, .slice none 0 0] 27
  have bX := Bl.new ((w.alloc (.cells (List.toArray [.int .i64 0, .int .i64 0, .int .i64 0, .int .i64 0, .int .i64 0, .bool false, .int .i64 0, .int .i64 0, .int .i64 0, .int .i64 0, .int .i64 0, .int .i64 0, .slice none 0 0]) 27)).alloc (.cells (List.toArray SV) 9)) [.slice (some ⟨w.heap.size + 1, 0, none⟩) (x :: M).length (x :: M).length] 90
  have bR := Bl.new (((w.alloc (.cells (List.toArray [.int .i64 0, .int .i64 0, .int .i64 0, .int .i64 0, .int .i64 0, .bool false, .int .i64 0, .int .i64 0, .int .i64 0, .int .i64 0, .int .i64 0, .int .i64 0, .slice none 0 0]) 27)).alloc (.cells (List.toArray SV) 9)).alloc (.cells #[.slice (some ⟨w.heap.size + 1, 0, none⟩) (x :: M).length (x :: M).length] 90)) [.int .i64 0, .int .i64 0, .int .i64 0, .int .i64 0, .int .i64 0, .bool false, .int .i64 0, .int .i64 0, .int .i64 0, .int .i64 0, .int .i64 0, .int .i64 0, .slice none 0 0] 27
  have hS := heap_alloc_new (w.alloc (.cells (List.toArray [.int .i64 0, .int .i64 0, .int .i64 0, .int .i64 0, .int .i64 0, .bool false, .int .i64 0, .int .i64 0, .int .i64 0, .int .i64 0, .int .i64 0, .int .i64 0, .slice none 0 0]) 27)) (.cells (List.toArray SV) 9)
  rw [World.size_alloc] at hS
  have g1 : Below (w.alloc (.cells (List.toArray [.int .i64 0, .int .i64 0, .int .i64 0, .int .i64 0, .int .i64 0, .bool false, .int .i64 0, .int .i64 0, .int .i64 0, .int .i64 0, .int .i64 0, .int .i64 0, .slice none 0 0]) 27)).heap.size (w.alloc (.cells (List.toArray [.int .i64 0, .int .i64 0, .int .i64 0, .int .i64 0, .int .i64 0, .bool false, .int .i64 0, .int .i64 0, .int .i64 0, .int .i64 0, .int .i64 0, .int .i64 0, .slice none 0 0]) 27)) ((((w.alloc (.cells (List.toArray [.int .i64 0, .int .i64 0, .int .i64 0, .int .i64 0, .int .i64 0, .bool false, .int .i64 0, .int .i64 0, .int .i64 0, .int .i64 0, .int .i64 0, .int .i64 0, .slice none 0 0]) 27)).alloc (.cells (List.toArray SV) 9)).alloc (.cells #[.slice (some ⟨w.heap.size + 1, 0, none⟩) (x :: M).length (x :: M).length] 90)).alloc (.cells (List.toArray [.int .i64 0, .int .i64 0, .int .i64 0, .int .i64 0, .int .i64 0, .bool false, .int .i64 0, .int .i64 0, .int .i64 0, .int .i64 0, .int .i64 0, .int .i64 0, .slice none 0 0]) 27)) := by go_grown
  have g2 : Below ((w.alloc (.cells (List.toArray [.int .i64 0, .int .i64 0, .int .i64 0, .int .i64 0, .int .i64 0, .bool false, .int .i64 0, .int .i64 0, .int .i64 0, .int .i64 0, .int .i64 0, .int .i64 0, .slice none 0 0]) 27)).alloc (.cells (List.toArray SV) 9)).heap.size ((w.alloc (.cells (List.toArray [.int .i64 0, .int .i64 0, .int .i64 0, .int .i64 0, .int .i64 0, .bool false, .int .i64 0, .int .i64 0, .int .i64 0, .int .i64 0, .int .i64 0, .int .i64 0, .slice none 0 0]) 27)).alloc (.cells (List.toArray SV) 9)) ((((w.alloc (.cells (List.toArray [.int .i64 0, .int .i64 0, .int .i64 0, .int .i64 0, .int .i64 0, .bool false, .int .i64 0, .int .i64 0, .int .i64 0, .int .i64 0, .int .i64 0, .int .i64 0, .slice none 0 0]) 27)).alloc (.cells (List.toArray SV) 9)).alloc (.cells #[.slice (some ⟨w.heap.size + 1, 0, none⟩) (x :: M).length (x :: M).length] 90)).alloc (.cells (List.toArray [.int .i64 0, .int .i64 0, .int .i64 0, .int .i64 0, .int .i64 0, .bool false, .int .i64 0, .int .i64 0, .int .i64 0, .int .i64 0, .int .i64 0, .int .i64 0, .slice none 0 0]) 27)) := by go_grown
  have g3 : Below (((w.alloc (.cells (List.toArray [.int .i64 0, .int .i64 0, .int .i64 0, .int .i64 0, .int .i64 0, .bool false, .int .i64 0, .int .i64 0, .int .i64 0, .int .i64 0, .int .i64 0, .int .i64 0, .slice none 0 0]) 27)).alloc (.cells (List.toArray SV) 9)).alloc (.cells #[.slice (some ⟨w.heap.size + 1, 0, none⟩) (x :: M).length (x :: M).length] 90)).heap.size (((w.alloc (.cells (List.toArray [.int .i64 0, .int .i64 0, .int .i64 0, .int .i64 0, .int .i64 0, .bool false, .int .i64 0, .int .i64 0, .int .i64 0, .int .i64 0, .int .i64 0, .int .i64 0, .slice none 0 0]) 27)).alloc (.cells (List.toArray SV) 9)).alloc (.cells #[.slice (some ⟨w.heap.size + 1, 0, none⟩) (x :: M).length (x :: M).length] 90)) ((((w.alloc (.cells (List.toArray [.int .i64 0, .int .i64 0, .int .i64 0, .int .i64 0, .int .i64 0, .bool false, .int .i64 0, .int .i64 0, .int .i64 0, .int .i64 0, .int .i64 0, .int .i64 0, .slice none 0 0]) 27)).alloc (.cells (List.toArray SV) 9)).alloc (.cells #[.slice (some ⟨w.heap.size + 1, 0, none⟩) (x :: M).length (x :: M).length] 90)).alloc (.cells (List.toArray [.int .i64 0, .int .i64 0, .int .i64 0, .int .i64 0, .int .i64 0, .bool false, .int .i64 0, .int .i64 0, .int .i64 0, .int .i64 0, .int .i64 0, .int .i64 0, .slice none 0 0]) 27)) := by go_grown
  have g0 : Below w.heap.size w ((((w.alloc (.cells (List.toArray [.int .i64 0, .int .i64 0, .int .i64 0, .int .i64 0, .int .i64 0, .bool false, .int .i64 0, .int .i64 0, .int .i64 0, .int .i64 0, .int .i64 0, .int .i64 0, .slice none 0 0]) 27)).alloc (.cells (List.toArray SV) 9)).alloc (.cells #[.slice (some ⟨w.heap.size + 1, 0, none⟩) (x :: M).length (x :: M).length] 90)).alloc (.cells (List.toArray [.int .i64 0, .int .i64 0, .int .i64 0, .int .i64 0, .int .i64 0, .bool false, .int .i64 0, .int .i64 0, .int .i64 0, .int .i64 0, .int .i64 0, .int .i64 0, .slice none 0 0]) 27)) := by go_grown
  have bX' := bX.below g3
  have bO' := bO.below g1
  have hS' := (g2.block (w.heap.size + 1) (by rw [World.size_alloc, World.size_alloc]; omega)).trans hS
  rw [World.size_alloc, World.size_alloc] at bX'
  rw [World.size_alloc, World.size_alloc, World.size_alloc] at bR
  have hsz : ((((w.alloc (.cells (List.toArray [.int .i64 0, .int .i64 0, .int .i64 0, .int .i64 0, .int .i64 0, .bool false, .int .i64 0, .int .i64 0, .int .i64 0, .int .i64 0, .int .i64 0, .int .i64 0, .slice none 0 0]) 27)).alloc (.cells (List.toArray SV) 9)).alloc (.cells #[.slice (some ⟨w.heap.size + 1, 0, none⟩) (x :: M).length (x :: M).length] 90)).alloc (.cells (List.toArray [.int .i64 0, .int .i64 0, .int .i64 0, .int .i64 0, .int .i64 0, .bool false, .int .i64 0, .int .i64 0, .int .i64 0, .int .i64 0, .int .i64 0, .int .i64 0, .slice none 0 0]) 27)).heap.size = w.heap.size + 1 + 1 + 1 + 1 := by rw [World.size_alloc, World.size_alloc, World.size_alloc, World.size_alloc]
  refine ⟨⟨by rw [hsz]; omega, by omega, by rw [hsz]; omega, _, _, bX', Nat.le_refl _, hl, fun _ => ⟨0, rfl, fun j y hy => ?_⟩⟩, bO', bR, g0, by omega⟩
  rw [cell_of_row _ _ _ _ _ _ hS', Nat.zero_add]
  rw [hSV, List.getElem?_toArray, List.getElem?_map, hy]
  rfl
theorem own_far {base : Nat} {A : Option Addr} {cap n : Nat} {L : List Lk} {w : World} (h : w.ownsRow base 54 3 (.slice A n cap) n (lcs L)) : ∀ ad, 0 < n → A = some ad → base ≤ ad.block := by
  intro ad h0 hA
  obtain ⟨g, c2, hv, hb, hlt⟩ := h.form h0
  injection hv with hA2 _ _
  rw [hA] at hA2
  injection hA2 with hA3
  rw [hA3]; exact hb
theorem LkAt.kp {A : Option Addr} {L : List Lk} {w w' : World} {X : Nat} (h : LkAt A L w) (hf : ∀ ad, 0 < L.length → A = some ad → ad.block ≠ X) (hs : w.heap.size ≤ w'.heap.size) (hk : ∀ k, k ≠ X → k < w.heap.size → w'.heap[k]? = w.heap[k]?) : LkAt A L w' := fun h0 => by
  obtain ⟨ad, e, hl, hc⟩ := h h0
  have hne := hf ad h0 e
  have hq : ∀ j, w'.cell? (ad.add j) = w.cell? (ad.add j) := fun j => by
    unfold World.cell?
    rw [block_of_add, hk ad.block hne hl]
  exact ⟨ad, e, Nat.lt_of_lt_of_le hl hs, fun i x hx => ⟨(hq _).trans (hc i x hx).1, (hq _).trans (hc i x hx).2.1, (hq _).trans (hc i x hx).2.2⟩⟩
theorem number_int (X S : Nat) (n : Int) (hn : 0 ≤ n ∧ n ≤ 9999999) (ws : List (List UInt8)) (w : World) (h : Rd X S (dcl n.toNat :: ws) w) : Calls Tryz.prog 47 #[.pointer (some ⟨X, 0, none⟩)] w fun e w' => e = .returned (.int .i64 n) ∧ Rd X S ws w' ∧ Kp X w w' := by
  have := number_is X S n.toNat (by omega) ws w h
  rwa [show ((n.toNat : Nat) : Int) = n by omega] at this
theorem eqE (l : List UInt8) : ((Bs l).toList == [101, 114, 114, 111, 114]) = (l == wErr) := by
  rw [ByteArray.toList_eq, Bs_list]
  rfl
theorem eqA (l : List UInt8) : ((Bs l).toList == [97, 115, 107, 101, 100]) = (l == wAsk) := by
  rw [ByteArray.toList_eq, Bs_list]
  rfl
theorem rn_err (k : Int) : (rn k == wErr) = false := by
  unfold rn
  split
  · decide
  · split
    · decide
    · split
      · decide
      · split
        · decide
        · split <;> decide
theorem ln_err (k : Int) : (ln k == wErr) = false := by
  unfold ln
  split
  · decide
  · split
    · decide
    · split
      · decide
      · split
        · decide
        · split
          · decide
          · split <;> decide
theorem ln_first {q : Int} (hq : q = 0 ∨ q = 1 ∨ q = 5 ∨ q = 6 ∨ q = 7 ∨ q = 8) : ∀ j : Int, 0 ≤ j → j < q → ln j ≠ ln q := by
  intro j h1 h2
  rcases hq with rfl | rfl | rfl | rfl | rfl | rfl <;> rcases (show j = 0 ∨ j = 1 ∨ j = 2 ∨ j = 3 ∨ j = 4 ∨ j = 5 ∨ j = 6 ∨ j = 7 by omega) with rfl | rfl | rfl | rfl | rfl | rfl | rfl | rfl <;> first | (exfalso; omega) | decide
theorem rn_first {q : Int} (hq : 0 ≤ q ∧ q ≤ 5) : ((1 : Int) ≤ q ∧ q ≤ 5 ∧ rn q = rn q ∧ ∀ j : Int, 1 ≤ j → j < q → rn j ≠ rn q) ∨ (q = 0 ∧ ∀ j : Int, 1 ≤ j → j ≤ 5 → rn j ≠ rn q) := by
  by_cases h : q = 0
  · right
    refine ⟨h, fun j h1 h2 e => ?_⟩
    have := rn_inj ⟨by omega, h2⟩ hq e
    omega
  · left
    refine ⟨by omega, hq.2, rfl, fun j h1 h2 e => ?_⟩
    have := rn_inj ⟨by omega, by omega⟩ hq e
    omega
/-- What else a right reply is, told by its code and its kind. -/
theorem rt_err {k cd t i c : Int} {ask : Bool} {r0 r1 r2 r3 r4 r5 : Int} {L : List Lk} (h : Rt ⟨k, cd, t, i, c, ask, r0, r1, r2, r3, r4, r5, L⟩) (hcd : cd ≠ 0) : tl_ ⟨k, cd, t, i, c, ask, r0, r1, r2, r3, r4, r5, L⟩ = [wErr, dcl cd.toNat] ∧ ask = false ∧ (r0 = 0 ∧ r1 = 0 ∧ r2 = 0 ∧ r3 = 0 ∧ r4 = 0 ∧ r5 = 0) ∧ L = [] := by
  refine ⟨by unfold tl_; rw [if_pos hcd], ?_, ?_, ?_⟩
  · cases ask with
    | false => rfl
    | true => exact absurd (h.ask rfl).2 hcd
  · rcases h.recs with h1 | h1
    · exact h1
    · exact absurd h1.2.1 hcd
  · rcases h.look with h1 | h1
    · exact h1
    · exact absurd h1.2.1 hcd
theorem rt_recs {k cd t i c : Int} {ask : Bool} {r0 r1 r2 r3 r4 r5 : Int} {L : List Lk} (h : Rt ⟨k, cd, t, i, c, ask, r0, r1, r2, r3, r4, r5, L⟩) (hk : k ≠ 3) : r0 = 0 ∧ r1 = 0 ∧ r2 = 0 ∧ r3 = 0 ∧ r4 = 0 ∧ r5 = 0 := by
  rcases h.recs with h1 | h1
  · exact h1
  · exact absurd h1.1 hk
theorem rt_look {k cd t i c : Int} {ask : Bool} {r0 r1 r2 r3 r4 r5 : Int} {L : List Lk} (h : Rt ⟨k, cd, t, i, c, ask, r0, r1, r2, r3, r4, r5, L⟩) (hk : k ≠ 4) : L = [] := by
  rcases h.look with h1 | h1
  · exact h1
  · exact absurd h1.1 hk
theorem rt_ask {k cd t i c : Int} {ask : Bool} {r0 r1 r2 r3 r4 r5 : Int} {L : List Lk} (h : Rt ⟨k, cd, t, i, c, ask, r0, r1, r2, r3, r4, r5, L⟩) (hk : k ≠ 2) : ask = false := by
  cases ask with
  | false => rfl
  | true => exact absurd (h.ask rfl).1 hk
/-- A reader's next word, as the walk reads it. -/
theorem Rd.head {X S : Nat} {x : List UInt8} {ws : List (List UInt8)} {w : World} (h : Rd X S (x :: ws) w) : ∃ kk c, w.cell? ⟨X, 0, none⟩ = some (.slice (some ⟨S, kk, none⟩) (x :: ws).length c) ∧ w.cell? ⟨S, kk, none⟩ = some (.string (Bs x)) ∧ ws.length + 1 ≤ c := by
  obtain ⟨h1, h2, h3, a, c, hB, hc, hc2, hr⟩ := h
  obtain ⟨k, ha, hj⟩ := hr (by simp)
  subst ha
  have := hj 0 x rfl
  rw [Nat.add_zero] at this
  exact ⟨k, c, hB.cell 0 _ rfl, this, hc⟩
theorem Rd.none {X S : Nat} {w : World} (h : Rd X S [] w) : ∃ a c, w.cell? ⟨X, 0, none⟩ = some (.slice a 0 c) := by
  obtain ⟨h1, h2, h3, a, c, hB, _⟩ := h
  exact ⟨a, c, hB.cell 0 _ rfl⟩
theorem Rs.low {OB SB XB RB : Nat} {w0 w w' : World} {ws : List (List UInt8)} {cs : List Value} (h : Rs OB SB XB RB w0 ws cs w) (hs : w.heap.size ≤ w'.heap.size) (hb : ∀ k, k ≤ RB → w'.heap[k]? = w.heap[k]?) (hB : Below w0.heap.size w0 w') : Rs OB SB XB RB w0 ws cs w' := by
  have ho := h.o
  refine ⟨?_, ?_, ?_, hB, ho⟩
  · obtain ⟨h1, h2, h3, a, c, hbx, hc, hc2, hr⟩ := h.rd
    refine ⟨by omega, h2, by omega, a, c, ?_, hc, hc2, fun h0 => ?_⟩
    · obtain ⟨t, ht⟩ := hbx
      exact ⟨t, (hb XB (by omega)).trans ht⟩
    · obtain ⟨k, ha, hj⟩ := hr h0
      refine ⟨k, ha, fun j x hx => ?_⟩
      have := hj j x hx
      unfold World.cell? at this ⊢
      rw [hb SB (by omega)]
      exact this
  · obtain ⟨t, ht⟩ := h.ob
    exact ⟨t, (hb OB (by omega)).trans ht⟩
  · obtain ⟨t, ht⟩ := h.rb
    exact ⟨t, (hb RB (by omega)).trans ht⟩
theorem Rs.below {OB SB XB RB : Nat} {w0 w w' : World} {ws : List (List UInt8)} {cs : List Value} (h : Rs OB SB XB RB w0 ws cs w) (hb : Below w.heap.size w w') : Rs OB SB XB RB w0 ws cs w' :=
  h.low hb.size (fun k hk => hb.block k (by have := h.rb.lt; omega)) (Below.step h.bel hb)
theorem Rs.grown {OB SB XB RB : Nat} {w0 w w' : World} {ws : List (List UInt8)} {cs : List Value} {row : Option Nat} (h : Rs OB SB XB RB w0 ws cs w) (hg : w.grownBy w' row) (hr : ∀ b, row = some b → RB < b) : Rs OB SB XB RB w0 ws cs w' := by
  have hl := h.rb.lt
  have hB : Below w0.heap.size w0 w' := Below.grown h.bel hg (by have := h.bel.size; omega) (fun b e => by have := hr b e; have := h.o; omega)
  exact h.low hg.size (fun k hk => hg.block k (by omega) (fun e => by have := hr k e.symm; omega)) hB
/-- How many words a reader has left. -/
def todo (X : Nat) (w : World) : Nat := match w.cell? ⟨X, 0, none⟩ with
  | some (.slice _ n _) => n
  | _ => 0
theorem Rd.todo {X S : Nat} {ws : List (List UInt8)} {w : World} (h : Rd X S ws w) : todo X w = ws.length := by
  obtain ⟨h1, h2, h3, a, c, hB, _⟩ := h
  unfold Go.Proofs.YtinciphhoieonaaGreatDoor.todo
  rw [hB.cell 0 _ rfl]
set_option maxRecDepth 100000 in
set_option maxHeartbeats 8000000 in
theorem read_is (k cd t i c : Int) (ask : Bool) (r0 r1 r2 r3 r4 r5 : Int) (L : List Lk) (h : Rt ⟨k, cd, t, i, c, ask, r0, r1, r2, r3, r4, r5, L⟩) (hcd : cd ≤ 9999999) (hl : L.length ≤ 1000) (w : World) (hv : Vb w) (hm : Ml w) : Calls Tryz.prog 33 #[.string (Bs (jl (aw ⟨k, cd, t, i, c, ask, r0, r1, r2, r3, r4, r5, L⟩)))] w fun e w' => ∃ A cap, e = .returned (.agg (List.toArray [.int .i64 k, .int .i64 cd, .int .i64 t, .int .i64 i, .int .i64 c, .bool ask, .int .i64 r0, .int .i64 r1, .int .i64 r2, .int .i64 r3, .int .i64 r4, .int .i64 r5, .slice A L.length cap])) ∧ LkAt A L w' ∧ (∀ ad, 0 < L.length → A = some ad → w.heap.size < ad.block) ∧ Below w.heap.size w w' := by
  have hsh := jl_short ⟨k, cd, t, i, c, ask, r0, r1, r2, r3, r4, r5, L⟩ h hl (by show cd ≤ _; omega)
  have hnb := aw_nb ⟨k, cd, t, i, c, ask, r0, r1, r2, r3, r4, r5, L⟩
  have hal := (aw_len ⟨k, cd, t, i, c, ask, r0, r1, r2, r3, r4, r5, L⟩ h hl (by show cd ≤ _; omega)).2.1
  obtain ⟨LN, hLN⟩ : ∃ LN, LN = Bs (jl (aw ⟨k, cd, t, i, c, ask, r0, r1, r2, r3, r4, r5, L⟩)) := ⟨_, rfl⟩
  obtain ⟨TL, hTL⟩ : ∃ TL, TL = tl_ ⟨k, cd, t, i, c, ask, r0, r1, r2, r3, r4, r5, L⟩ := ⟨_, rfl⟩
  obtain ⟨MT, hMT⟩ : ∃ MT, MT = ((if k ≤ 2 then [dcl i.toNat] else []) ++ ((if k ≤ 3 then [dcl c.toNat] else []) ++ TL)) := ⟨_, rfl⟩
  have hAT : aw ⟨k, cd, t, i, c, ask, r0, r1, r2, r3, r4, r5, L⟩ = dcl t.toNat :: vbl k :: MT := by rw [hMT, hTL]; rfl
  rw [← hLN]
  rw [hAT] at hsh hnb hal hLN
  have gO : Below w.heap.size w (w.alloc (.cells (List.toArray [.int .i64 0, .int .i64 0, .int .i64 0, .int .i64 0, .int .i64 0, .bool false, .int .i64 0, .int .i64 0, .int .i64 0, .int .i64 0, .int .i64 0, .int .i64 0, .slice none 0 0]) 27)) := by go_grown
  obtain ⟨SV, hSV⟩ : ∃ SV, SV = (dcl t.toNat :: vbl k :: MT).map fun l => Value.string (Bs l) := ⟨_, rfl⟩
  obtain ⟨AN, hAN⟩ : ∃ AN, AN = (dcl t.toNat :: vbl k :: MT).length := ⟨_, rfl⟩
  have HSP : Hid (Calls Tryz.prog 46 #[.string LN, .string ⟨#[32]⟩] (w.alloc (.cells (List.toArray [.int .i64 0, .int .i64 0, .int .i64 0, .int .i64 0, .int .i64 0, .bool false, .int .i64 0, .int .i64 0, .int .i64 0, .int .i64 0, .int .i64 0, .int .i64 0, .slice none 0 0]) 27)) (fun e w' => e = .returned (.slice (some ⟨w.heap.size + 1, 0, none⟩) AN AN) ∧ w' = ((w.alloc (.cells (List.toArray [.int .i64 0, .int .i64 0, .int .i64 0, .int .i64 0, .int .i64 0, .bool false, .int .i64 0, .int .i64 0, .int .i64 0, .int .i64 0, .int .i64 0, .int .i64 0, .slice none 0 0]) 27)).alloc (.cells (List.toArray SV) 9)))) := Lib.hid (by
    rw [hLN, hSV, hAN]
    have := split_is (dcl t.toNat) (vbl k :: MT) hnb (by omega) (w.alloc (.cells (List.toArray [.int .i64 0, .int .i64 0, .int .i64 0, .int .i64 0, .int .i64 0, .bool false, .int .i64 0, .int .i64 0, .int .i64 0, .int .i64 0, .int .i64 0, .int .i64 0, .slice none 0 0]) 27)) (hm.below gO)
    rwa [World.size_alloc] at this)
  have hRS := rs_start w (dcl t.toNat) (vbl k :: MT) (by omega) SV AN hSV hAN
  obtain ⟨W, hW⟩ : ∃ W, W = ((((w.alloc (.cells (List.toArray [.int .i64 0, .int .i64 0, .int .i64 0, .int .i64 0, .int .i64 0, .bool false, .int .i64 0, .int .i64 0, .int .i64 0, .int .i64 0, .int .i64 0, .int .i64 0, .slice none 0 0]) 27)).alloc (.cells (List.toArray SV) 9)).alloc (.cells #[.slice (some ⟨w.heap.size + 1, 0, none⟩) AN AN] 90)).alloc (.cells (List.toArray [.int .i64 0, .int .i64 0, .int .i64 0, .int .i64 0, .int .i64 0, .bool false, .int .i64 0, .int .i64 0, .int .i64 0, .int .i64 0, .int .i64 0, .int .i64 0, .slice none 0 0]) 27)) := ⟨_, rfl⟩
  rw [← hW] at hRS
  obtain ⟨OB, hOB⟩ : ∃ OB, OB = w.heap.size := ⟨_, rfl⟩
  obtain ⟨SB, hSB⟩ : ∃ SB, SB = w.heap.size + 1 := ⟨_, rfl⟩
  obtain ⟨XB, hXB⟩ : ∃ XB, XB = w.heap.size + 1 + 1 := ⟨_, rfl⟩
  obtain ⟨RB, hRB⟩ : ∃ RB, RB = w.heap.size + 1 + 1 + 1 := ⟨_, rfl⟩
  rw [← hRB, ← hXB, ← hSB, ← hOB] at hRS
  have HS := Lib.hid hRS
  have HWE := Lib.hid hW
  have HOB := Lib.hid hOB
  have HSB := Lib.hid hSB
  have HXB := Lib.hid hXB
  have HRB := Lib.hid hRB
  have HRT := Lib.hid h
  have HCD := Lib.hid hcd
  have HLL := Lib.hid hl
  have HV := Lib.hid hv
  have HMT := Lib.hid hMT
  have HTL := Lib.hid hTL
  clear hSV hAN gO hm hLN hAT hsh hnb hal h hcd hl hv hW hOB hSB hXB hRB hRS hMT hTL
  go_enter Tryz.func33, Tryz.ntmps33
  go_wp2_with fail
  refine HSP.out.mono ?_
  rintro e1 w1 ⟨rfl, hw1⟩
  subst hw1
  clear HSP
  go_upto_region 3 with fail
  rw [← HWE.out, ← HRB.out, ← HXB.out, ← HSB.out, ← HOB.out]
  go_wp2_with fail
  refine (number_int XB SB t (by have h9 : 0 ≤ t ∧ t ≤ 1000000 := HRT.out.t; omega) _ W HS.out.rd).mono ?_
  rintro e101 w101 ⟨rfl, hr101, hk101⟩
  have HC101 : Hid (Rs OB SB XB RB w (vbl k :: MT) [.int .i64 0, .int .i64 0, .int .i64 0, .int .i64 0, .int .i64 0, .bool false, .int .i64 0, .int .i64 0, .int .i64 0, .int .i64 0, .int .i64 0, .int .i64 0, .slice none 0 0] w101) := Lib.hid (HS.out.call hr101 hk101)
  clear hr101 hk101
  have yb : w101.cell? ⟨RB, 2, none⟩ = some (.int .i64 0) := HC101.out.rb.cell 2 _ rfl
  have yf : w101.frozen? ⟨RB, 2, none⟩ = false := HC101.out.rb.frz 2
  go_upto_region 4 with fail
  have hs103 : Rs OB SB XB RB w (vbl k :: MT) [.int .i64 0, .int .i64 0, .int .i64 t, .int .i64 0, .int .i64 0, .bool false, .int .i64 0, .int .i64 0, .int .i64 0, .int .i64 0, .int .i64 0, .int .i64 0, .slice none 0 0] (w101.setCell ⟨RB, 2, none⟩ (.int .i64 t)) := HC101.out.set 2 (.int .i64 t)
  clear yb yf
  obtain ⟨v103, hv103⟩ : ∃ v, v = w101.setCell ⟨RB, 2, none⟩ (.int .i64 t) := ⟨_, rfl⟩
  rw [← hv103] at hs103 ⊢
  have HS103 := Lib.hid hs103
  clear hs103 hv103
  go_wp2_with fail
  refine (kind_verb XB SB k (vbl k) MT v103 HS103.out.rd (HS103.out.vb HV.out) (Or.inl ⟨HRT.out.k.1, HRT.out.k.2, rfl, fun j h1 h2 e => absurd (vbl_inj ⟨h1, by have h8 : k ≤ 4 := HRT.out.k.2; omega⟩ HRT.out.k e) (by show ¬ (j = k); omega)⟩)).mono ?_
  rintro e104 w104 ⟨rfl, hr104, hk104⟩
  have HC104 : Hid (Rs OB SB XB RB w (MT) [.int .i64 0, .int .i64 0, .int .i64 t, .int .i64 0, .int .i64 0, .bool false, .int .i64 0, .int .i64 0, .int .i64 0, .int .i64 0, .int .i64 0, .int .i64 0, .slice none 0 0] w104) := Lib.hid (HS103.out.call hr104 hk104)
  clear hr104 hk104
  have yb : w104.cell? ⟨RB, 0, none⟩ = some (.int .i64 0) := HC104.out.rb.cell 0 _ rfl
  have yf : w104.frozen? ⟨RB, 0, none⟩ = false := HC104.out.rb.frz 0
  go_upto_region 5 with fail
  have hs106 : Rs OB SB XB RB w (MT) [.int .i64 k, .int .i64 0, .int .i64 t, .int .i64 0, .int .i64 0, .bool false, .int .i64 0, .int .i64 0, .int .i64 0, .int .i64 0, .int .i64 0, .int .i64 0, .slice none 0 0] (w104.setCell ⟨RB, 0, none⟩ (.int .i64 k)) := HC104.out.set 0 (.int .i64 k)
  clear yb yf
  obtain ⟨v106, hv106⟩ : ∃ v, v = w104.setCell ⟨RB, 0, none⟩ (.int .i64 k) := ⟨_, rfl⟩
  rw [← hv106] at hs106 ⊢
  have HS106 := Lib.hid hs106
  clear hs106 hv106
  have y0 : v106.cell? ⟨RB, 0, none⟩ = some (.int .i64 k) := HS106.out.rb.cell 0 _ rfl
  go_upto_block 0 with fail
  clear y0
  go_cut [] (fun wx => Hid (Rs OB SB XB RB w (TL) [.int .i64 k, .int .i64 0, .int .i64 t, .int .i64 i, .int .i64 c, .bool false, .int .i64 0, .int .i64 0, .int .i64 0, .int .i64 0, .int .i64 0, .int .i64 0, .slice none 0 0] wx))
  case first =>
    have hk4 : k = 1 ∨ k = 2 ∨ k = 3 ∨ k = 4 := by
      have h9 : 1 ≤ k ∧ k ≤ 4 := HRT.out.k
      omega
    rcases hk4 with rfl | rfl | rfl | rfl
    · have HM0 : Hid (Rs OB SB XB RB w (dcl i.toNat :: dcl c.toNat :: TL) [.int .i64 1, .int .i64 0, .int .i64 t, .int .i64 0, .int .i64 0, .bool false, .int .i64 0, .int .i64 0, .int .i64 0, .int .i64 0, .int .i64 0, .int .i64 0, .slice none 0 0] v106) := Lib.hid (by
        have h1 := HS106.out
        have h2 := HMT.out
        simp at h2
        rw [h2] at h1
        exact h1)
      have hi : 0 ≤ i ∧ i ≤ 9999999 := HRT.out.i
      have HI := Lib.hid hi
      clear hi
      have hc : 0 ≤ c ∧ c ≤ 9999999 := HRT.out.c
      have HCC := Lib.hid hc
      clear hc
      go_wp2_with fail
      refine (number_int XB SB i HI.out _ v106 HM0.out.rd).mono ?_
      rintro e107 w107 ⟨rfl, hr107, hk107⟩
      have HC107 : Hid (Rs OB SB XB RB w (dcl c.toNat :: TL) [.int .i64 1, .int .i64 0, .int .i64 t, .int .i64 0, .int .i64 0, .bool false, .int .i64 0, .int .i64 0, .int .i64 0, .int .i64 0, .int .i64 0, .int .i64 0, .slice none 0 0] w107) := Lib.hid (HM0.out.call hr107 hk107)
      clear hr107 hk107
      have yb : w107.cell? ⟨RB, 3, none⟩ = some (.int .i64 0) := HC107.out.rb.cell 3 _ rfl
      have yf : w107.frozen? ⟨RB, 3, none⟩ = false := HC107.out.rb.frz 3
      go_wp2_with fail
      have hs109 : Rs OB SB XB RB w (dcl c.toNat :: TL) [.int .i64 1, .int .i64 0, .int .i64 t, .int .i64 i, .int .i64 0, .bool false, .int .i64 0, .int .i64 0, .int .i64 0, .int .i64 0, .int .i64 0, .int .i64 0, .slice none 0 0] (w107.setCell ⟨RB, 3, none⟩ (.int .i64 i)) := HC107.out.set 3 (.int .i64 i)
      clear yb yf
      obtain ⟨v109, hv109⟩ : ∃ v, v = w107.setCell ⟨RB, 3, none⟩ (.int .i64 i) := ⟨_, rfl⟩
      rw [← hv109] at hs109 ⊢
      have HS109 := Lib.hid hs109
      clear hs109 hv109
      refine (number_int XB SB c HCC.out _ v109 HS109.out.rd).mono ?_
      rintro e110 w110 ⟨rfl, hr110, hk110⟩
      have HC110 : Hid (Rs OB SB XB RB w (TL) [.int .i64 1, .int .i64 0, .int .i64 t, .int .i64 i, .int .i64 0, .bool false, .int .i64 0, .int .i64 0, .int .i64 0, .int .i64 0, .int .i64 0, .int .i64 0, .slice none 0 0] w110) := Lib.hid (HS109.out.call hr110 hk110)
      clear hr110 hk110
      have yb : w110.cell? ⟨RB, 4, none⟩ = some (.int .i64 0) := HC110.out.rb.cell 4 _ rfl
      have yf : w110.frozen? ⟨RB, 4, none⟩ = false := HC110.out.rb.frz 4
      go_wp2_with fail
      have hs112 : Rs OB SB XB RB w (TL) [.int .i64 1, .int .i64 0, .int .i64 t, .int .i64 i, .int .i64 c, .bool false, .int .i64 0, .int .i64 0, .int .i64 0, .int .i64 0, .int .i64 0, .int .i64 0, .slice none 0 0] (w110.setCell ⟨RB, 4, none⟩ (.int .i64 c)) := HC110.out.set 4 (.int .i64 c)
      clear yb yf
      obtain ⟨v112, hv112⟩ : ∃ v, v = w110.setCell ⟨RB, 4, none⟩ (.int .i64 c) := ⟨_, rfl⟩
      rw [← hv112] at hs112 ⊢
      have HS112 := Lib.hid hs112
      clear hs112 hv112
      go_meet
      case rel => exact Lib.hid (by exact HS112.out)
    · have HM0 : Hid (Rs OB SB XB RB w (dcl i.toNat :: dcl c.toNat :: TL) [.int .i64 2, .int .i64 0, .int .i64 t, .int .i64 0, .int .i64 0, .bool false, .int .i64 0, .int .i64 0, .int .i64 0, .int .i64 0, .int .i64 0, .int .i64 0, .slice none 0 0] v106) := Lib.hid (by
        have h1 := HS106.out
        have h2 := HMT.out
        simp at h2
        rw [h2] at h1
        exact h1)
      have hi : 0 ≤ i ∧ i ≤ 9999999 := HRT.out.i
      have HI := Lib.hid hi
      clear hi
      have hc : 0 ≤ c ∧ c ≤ 9999999 := HRT.out.c
      have HCC := Lib.hid hc
      clear hc
      go_wp2_with fail
      refine (number_int XB SB i HI.out _ v106 HM0.out.rd).mono ?_
      rintro e113 w113 ⟨rfl, hr113, hk113⟩
      have HC113 : Hid (Rs OB SB XB RB w (dcl c.toNat :: TL) [.int .i64 2, .int .i64 0, .int .i64 t, .int .i64 0, .int .i64 0, .bool false, .int .i64 0, .int .i64 0, .int .i64 0, .int .i64 0, .int .i64 0, .int .i64 0, .slice none 0 0] w113) := Lib.hid (HM0.out.call hr113 hk113)
      clear hr113 hk113
      have yb : w113.cell? ⟨RB, 3, none⟩ = some (.int .i64 0) := HC113.out.rb.cell 3 _ rfl
      have yf : w113.frozen? ⟨RB, 3, none⟩ = false := HC113.out.rb.frz 3
      go_wp2_with fail
      have hs115 : Rs OB SB XB RB w (dcl c.toNat :: TL) [.int .i64 2, .int .i64 0, .int .i64 t, .int .i64 i, .int .i64 0, .bool false, .int .i64 0, .int .i64 0, .int .i64 0, .int .i64 0, .int .i64 0, .int .i64 0, .slice none 0 0] (w113.setCell ⟨RB, 3, none⟩ (.int .i64 i)) := HC113.out.set 3 (.int .i64 i)
      clear yb yf
      obtain ⟨v115, hv115⟩ : ∃ v, v = w113.setCell ⟨RB, 3, none⟩ (.int .i64 i) := ⟨_, rfl⟩
      rw [← hv115] at hs115 ⊢
      have HS115 := Lib.hid hs115
      clear hs115 hv115
      refine (number_int XB SB c HCC.out _ v115 HS115.out.rd).mono ?_
      rintro e116 w116 ⟨rfl, hr116, hk116⟩
      have HC116 : Hid (Rs OB SB XB RB w (TL) [.int .i64 2, .int .i64 0, .int .i64 t, .int .i64 i, .int .i64 0, .bool false, .int .i64 0, .int .i64 0, .int .i64 0, .int .i64 0, .int .i64 0, .int .i64 0, .slice none 0 0] w116) := Lib.hid (HS115.out.call hr116 hk116)
      clear hr116 hk116
      have yb : w116.cell? ⟨RB, 4, none⟩ = some (.int .i64 0) := HC116.out.rb.cell 4 _ rfl
      have yf : w116.frozen? ⟨RB, 4, none⟩ = false := HC116.out.rb.frz 4
      go_wp2_with fail
      have hs118 : Rs OB SB XB RB w (TL) [.int .i64 2, .int .i64 0, .int .i64 t, .int .i64 i, .int .i64 c, .bool false, .int .i64 0, .int .i64 0, .int .i64 0, .int .i64 0, .int .i64 0, .int .i64 0, .slice none 0 0] (w116.setCell ⟨RB, 4, none⟩ (.int .i64 c)) := HC116.out.set 4 (.int .i64 c)
      clear yb yf
      obtain ⟨v118, hv118⟩ : ∃ v, v = w116.setCell ⟨RB, 4, none⟩ (.int .i64 c) := ⟨_, rfl⟩
      rw [← hv118] at hs118 ⊢
      have HS118 := Lib.hid hs118
      clear hs118 hv118
      go_meet
      case rel => exact Lib.hid (by exact HS118.out)
    · have HM0 : Hid (Rs OB SB XB RB w (dcl c.toNat :: TL) [.int .i64 3, .int .i64 0, .int .i64 t, .int .i64 0, .int .i64 0, .bool false, .int .i64 0, .int .i64 0, .int .i64 0, .int .i64 0, .int .i64 0, .int .i64 0, .slice none 0 0] v106) := Lib.hid (by
        have h1 := HS106.out
        have h2 := HMT.out
        simp at h2
        rw [h2] at h1
        exact h1)
      have hc : 0 ≤ c ∧ c ≤ 9999999 := HRT.out.c
      have HCC := Lib.hid hc
      clear hc
      have hi0 : i = 0 := by
        have h1 : i ≠ 0 → (3 : Int) ≤ 2 := HRT.out.i3
        by_cases h2 : i = 0
        · exact h2
        · exact absurd (h1 h2) (by decide)
      have HI0 := Lib.hid hi0
      clear hi0
      go_wp2_with fail
      refine (number_int XB SB c HCC.out _ v106 HM0.out.rd).mono ?_
      rintro e119 w119 ⟨rfl, hr119, hk119⟩
      have HC119 : Hid (Rs OB SB XB RB w (TL) [.int .i64 3, .int .i64 0, .int .i64 t, .int .i64 0, .int .i64 0, .bool false, .int .i64 0, .int .i64 0, .int .i64 0, .int .i64 0, .int .i64 0, .int .i64 0, .slice none 0 0] w119) := Lib.hid (HM0.out.call hr119 hk119)
      clear hr119 hk119
      have yb : w119.cell? ⟨RB, 4, none⟩ = some (.int .i64 0) := HC119.out.rb.cell 4 _ rfl
      have yf : w119.frozen? ⟨RB, 4, none⟩ = false := HC119.out.rb.frz 4
      go_wp2_with fail
      have hs121 : Rs OB SB XB RB w (TL) [.int .i64 3, .int .i64 0, .int .i64 t, .int .i64 0, .int .i64 c, .bool false, .int .i64 0, .int .i64 0, .int .i64 0, .int .i64 0, .int .i64 0, .int .i64 0, .slice none 0 0] (w119.setCell ⟨RB, 4, none⟩ (.int .i64 c)) := HC119.out.set 4 (.int .i64 c)
      clear yb yf
      obtain ⟨v121, hv121⟩ : ∃ v, v = w119.setCell ⟨RB, 4, none⟩ (.int .i64 c) := ⟨_, rfl⟩
      rw [← hv121] at hs121 ⊢
      have HS121 := Lib.hid hs121
      clear hs121 hv121
      go_meet
      case rel => exact Lib.hid (by have e0 := HI0.out; rw [e0]; exact HS121.out)
    · have HM0 : Hid (Rs OB SB XB RB w (TL) [.int .i64 4, .int .i64 0, .int .i64 t, .int .i64 0, .int .i64 0, .bool false, .int .i64 0, .int .i64 0, .int .i64 0, .int .i64 0, .int .i64 0, .int .i64 0, .slice none 0 0] v106) := Lib.hid (by
        have h1 := HS106.out
        have h2 := HMT.out
        simp at h2
        rw [h2] at h1
        exact h1)
      have hi0 : i = 0 := by
        have h1 : i ≠ 0 → (4 : Int) ≤ 2 := HRT.out.i3
        by_cases h2 : i = 0
        · exact h2
        · exact absurd (h1 h2) (by decide)
      have hc0 : c = 0 := by
        have h1 : c ≠ 0 → (4 : Int) ≤ 3 := HRT.out.c4
        by_cases h2 : c = 0
        · exact h2
        · exact absurd (h1 h2) (by decide)
      have HI0 := Lib.hid hi0
      clear hi0
      have HC0 := Lib.hid hc0
      clear hc0
      go_wp2_with fail
      go_meet
      case rel => exact Lib.hid (by have e0 := HI0.out; have e1 := HC0.out; rw [e0, e1]; exact HM0.out)
  case rest =>
    have HCT := Lib.hid hcut.out
    clear hcut
    go_upto_block 3 with fail
    go_cut [] (fun wx => Hid (∃ A6 c6 ws6, Rs OB SB XB RB w (ws6) [.int .i64 k, .int .i64 cd, .int .i64 t, .int .i64 i, .int .i64 c, .bool ask, .int .i64 r0, .int .i64 r1, .int .i64 r2, .int .i64 r3, .int .i64 r4, .int .i64 r5, .slice A6 L.length c6] wx ∧ wx.ownsRow (RB + 1) 54 3 (.slice A6 L.length c6) L.length (lcs L)))
    case first =>
      by_cases hcd : cd = 0
      · subst hcd
        have hk4 : k = 1 ∨ k = 2 ∨ k = 3 ∨ k = 4 := by
          have h9 : 1 ≤ k ∧ k ≤ 4 := HRT.out.k
          omega
        rcases hk4 with rfl | rfl | rfl | rfl
        · as_aux_lemma =>
            obtain rfl := rt_ask HRT.out (by decide)
            obtain ⟨rfl, rfl, rfl, rfl, rfl, rfl⟩ := rt_recs HRT.out (by decide)
            obtain rfl := rt_look HRT.out (by decide)
            have hT : tl_ ⟨1, 0, t, i, c, false, 0, 0, 0, 0, 0, 0, []⟩ = [wOk] := rfl
            have HC : Hid (Rs OB SB XB RB w ([wOk]) [.int .i64 1, .int .i64 0, .int .i64 t, .int .i64 i, .int .i64 c, .bool false, .int .i64 0, .int .i64 0, .int .i64 0, .int .i64 0, .int .i64 0, .int .i64 0, .slice none 0 0] wc) := Lib.hid (by
              have h1 := HCT.out
              rw [HTL.out, hT] at h1
              exact h1)
            clear hT
            have hh : Rd XB SB (wOk :: []) wc := HC.out.rd
            obtain ⟨kk, cc, y24, y25, hcc⟩ := hh.head
            have HCC9 := Lib.hid hcc
            clear hh hcc
            have hz : ((Bs wOk).toList == [101, 114, 114, 111, 114]) = false := by rw [eqE]; decide
            have y0 : wc.cell? ⟨RB, 0, none⟩ = some (.int .i64 1) := HC.out.rb.cell 0 _ rfl
            go_wp2_with fail
            go_meet
            case rel => exact Lib.hid ⟨none, 0, _, HC.out, World.ownsRow_nil _ _ _ _⟩
        · as_aux_lemma =>
            obtain ⟨rfl, rfl, rfl, rfl, rfl, rfl⟩ := rt_recs HRT.out (by decide)
            obtain rfl := rt_look HRT.out (by decide)
            cases ask with
            | true =>
              have hT : tl_ ⟨2, 0, t, i, c, true, 0, 0, 0, 0, 0, 0, []⟩ = [wAsk] := rfl
              have HC : Hid (Rs OB SB XB RB w ([wAsk]) [.int .i64 2, .int .i64 0, .int .i64 t, .int .i64 i, .int .i64 c, .bool false, .int .i64 0, .int .i64 0, .int .i64 0, .int .i64 0, .int .i64 0, .int .i64 0, .slice none 0 0] wc) := Lib.hid (by
                have h1 := HCT.out
                rw [HTL.out, hT] at h1
                exact h1)
              clear hT
              have hh : Rd XB SB (wAsk :: []) wc := HC.out.rd
              obtain ⟨kk, cc, y24, y25, hcc⟩ := hh.head
              have HCC9 := Lib.hid hcc
              clear hh hcc
              have hz : ((Bs wAsk).toList == [101, 114, 114, 111, 114]) = false := by rw [eqE]; decide
              have hz2 : ((Bs wAsk).toList == [97, 115, 107, 101, 100]) = true := by rw [eqA]; decide
              have y0 : wc.cell? ⟨RB, 0, none⟩ = some (.int .i64 2) := HC.out.rb.cell 0 _ rfl
              go_wp2_with fail
              clear y24 y25
              refine (word_is XB SB wAsk [] wc HC.out.rd).mono ?_
              rintro e126 w126 ⟨rfl, hr126, hk126⟩
              have HC126 : Hid (Rs OB SB XB RB w ([]) [.int .i64 2, .int .i64 0, .int .i64 t, .int .i64 i, .int .i64 c, .bool false, .int .i64 0, .int .i64 0, .int .i64 0, .int .i64 0, .int .i64 0, .int .i64 0, .slice none 0 0] w126) := Lib.hid (HC.out.call hr126 hk126)
              clear hr126 hk126
              have yb : w126.cell? ⟨RB, 5, none⟩ = some (.bool false) := HC126.out.rb.cell 5 _ rfl
              have yf : w126.frozen? ⟨RB, 5, none⟩ = false := HC126.out.rb.frz 5
              go_wp2_with fail
              have hs128 : Rs OB SB XB RB w ([]) [.int .i64 2, .int .i64 0, .int .i64 t, .int .i64 i, .int .i64 c, .bool true, .int .i64 0, .int .i64 0, .int .i64 0, .int .i64 0, .int .i64 0, .int .i64 0, .slice none 0 0] (w126.setCell ⟨RB, 5, none⟩ (.bool true)) := HC126.out.set 5 (.bool true)
              clear yb yf
              obtain ⟨v128, hv128⟩ : ∃ v, v = w126.setCell ⟨RB, 5, none⟩ (.bool true) := ⟨_, rfl⟩
              rw [← hv128] at hs128 ⊢
              have HS128 := Lib.hid hs128
              clear hs128 hv128
              go_meet
              case rel => exact Lib.hid ⟨none, 0, _, HS128.out, World.ownsRow_nil _ _ _ _⟩
            | false =>
              have hT : tl_ ⟨2, 0, t, i, c, false, 0, 0, 0, 0, 0, 0, []⟩ = [wOk] := rfl
              have HC : Hid (Rs OB SB XB RB w ([wOk]) [.int .i64 2, .int .i64 0, .int .i64 t, .int .i64 i, .int .i64 c, .bool false, .int .i64 0, .int .i64 0, .int .i64 0, .int .i64 0, .int .i64 0, .int .i64 0, .slice none 0 0] wc) := Lib.hid (by
                have h1 := HCT.out
                rw [HTL.out, hT] at h1
                exact h1)
              clear hT
              have hh : Rd XB SB (wOk :: []) wc := HC.out.rd
              obtain ⟨kk, cc, y24, y25, hcc⟩ := hh.head
              have HCC9 := Lib.hid hcc
              clear hh hcc
              have hz : ((Bs wOk).toList == [101, 114, 114, 111, 114]) = false := by rw [eqE]; decide
              have hz2 : ((Bs wOk).toList == [97, 115, 107, 101, 100]) = false := by rw [eqA]; decide
              have y0 : wc.cell? ⟨RB, 0, none⟩ = some (.int .i64 2) := HC.out.rb.cell 0 _ rfl
              go_wp2_with fail
              clear y24 y25
              refine (word_is XB SB wOk [] wc HC.out.rd).mono ?_
              rintro e129 w129 ⟨rfl, hr129, hk129⟩
              have HC129 : Hid (Rs OB SB XB RB w ([]) [.int .i64 2, .int .i64 0, .int .i64 t, .int .i64 i, .int .i64 c, .bool false, .int .i64 0, .int .i64 0, .int .i64 0, .int .i64 0, .int .i64 0, .int .i64 0, .slice none 0 0] w129) := Lib.hid (HC.out.call hr129 hk129)
              clear hr129 hk129
              have yb : w129.cell? ⟨RB, 5, none⟩ = some (.bool false) := HC129.out.rb.cell 5 _ rfl
              have yf : w129.frozen? ⟨RB, 5, none⟩ = false := HC129.out.rb.frz 5
              go_wp2_with fail
              have hs131 : Rs OB SB XB RB w ([]) [.int .i64 2, .int .i64 0, .int .i64 t, .int .i64 i, .int .i64 c, .bool false, .int .i64 0, .int .i64 0, .int .i64 0, .int .i64 0, .int .i64 0, .int .i64 0, .slice none 0 0] (w129.setCell ⟨RB, 5, none⟩ (.bool false)) := HC129.out.set 5 (.bool false)
              clear yb yf
              obtain ⟨v131, hv131⟩ : ∃ v, v = w129.setCell ⟨RB, 5, none⟩ (.bool false) := ⟨_, rfl⟩
              rw [← hv131] at hs131 ⊢
              have HS131 := Lib.hid hs131
              clear hs131 hv131
              go_meet
              case rel => exact Lib.hid ⟨none, 0, _, HS131.out, World.ownsRow_nil _ _ _ _⟩
        · as_aux_lemma =>
            obtain rfl := rt_ask HRT.out (by decide)
            obtain rfl := rt_look HRT.out (by decide)
            rcases HRT.out.recs with ⟨g0, g1, g2, g3, g4, g5⟩ | ⟨_, _, hr0, h1, h2, h3, g4, g5⟩
            · obtain rfl : r0 = 0 := g0
              obtain rfl : r1 = 0 := g1
              obtain rfl : r2 = 0 := g2
              obtain rfl : r3 = 0 := g3
              obtain rfl : r4 = 0 := g4
              obtain rfl : r5 = 0 := g5
              have hT : tl_ ⟨3, 0, t, i, c, false, 0, 0, 0, 0, 0, 0, []⟩ = [rn 0] := rfl
              have HC : Hid (Rs OB SB XB RB w ([rn 0]) [.int .i64 3, .int .i64 0, .int .i64 t, .int .i64 i, .int .i64 c, .bool false, .int .i64 0, .int .i64 0, .int .i64 0, .int .i64 0, .int .i64 0, .int .i64 0, .slice none 0 0] wc) := Lib.hid (by
                have h1 := HCT.out
                rw [HTL.out, hT] at h1
                exact h1)
              clear hT
              have hh : Rd XB SB (rn 0 :: []) wc := HC.out.rd
              obtain ⟨kk, cc, y24, y25, hcc⟩ := hh.head
              have HCC9 := Lib.hid hcc
              clear hh hcc
              have hz : ((Bs (rn 0)).toList == [101, 114, 114, 111, 114]) = false := by rw [eqE]; exact rn_err _
              have y0 : wc.cell? ⟨RB, 0, none⟩ = some (.int .i64 3) := HC.out.rb.cell 0 _ rfl
              go_wp2_with fail
              clear y24 y25 hz
              refine (kind_rname XB SB 0 (rn 0) [] wc HC.out.rd (rn_first ⟨by decide, by decide⟩)).mono ?_
              rintro e132 w132 ⟨rfl, hr132, hk132⟩
              have HC132 : Hid (Rs OB SB XB RB w ([]) [.int .i64 3, .int .i64 0, .int .i64 t, .int .i64 i, .int .i64 c, .bool false, .int .i64 0, .int .i64 0, .int .i64 0, .int .i64 0, .int .i64 0, .int .i64 0, .slice none 0 0] w132) := Lib.hid (HC.out.call hr132 hk132)
              clear hr132 hk132
              have yb : w132.cell? ⟨RB, 6, none⟩ = some (.int .i64 0) := HC132.out.rb.cell 6 _ rfl
              have yf : w132.frozen? ⟨RB, 6, none⟩ = false := HC132.out.rb.frz 6
              go_wp2_with fail
              have hs134 : Rs OB SB XB RB w ([]) [.int .i64 3, .int .i64 0, .int .i64 t, .int .i64 i, .int .i64 c, .bool false, .int .i64 0, .int .i64 0, .int .i64 0, .int .i64 0, .int .i64 0, .int .i64 0, .slice none 0 0] (w132.setCell ⟨RB, 6, none⟩ (.int .i64 0)) := HC132.out.set 6 (.int .i64 0)
              clear yb yf
              obtain ⟨v134, hv134⟩ : ∃ v, v = w132.setCell ⟨RB, 6, none⟩ (.int .i64 0) := ⟨_, rfl⟩
              rw [← hv134] at hs134 ⊢
              have HS134 := Lib.hid hs134
              clear hs134 hv134
              go_meet
              case rel => exact Lib.hid ⟨none, 0, _, HS134.out, World.ownsRow_nil _ _ _ _⟩
            · obtain rfl : r4 = 0 := g4
              obtain rfl : r5 = 0 := g5
              have hr0 : 1 ≤ r0 ∧ r0 ≤ 5 := hr0
              have hrr : (0 ≤ r1 ∧ r1 ≤ 9999999) ∧ (0 ≤ r2 ∧ r2 ≤ 9999999) ∧ (0 ≤ r3 ∧ r3 ≤ 9999999) := ⟨h1, h2, h3⟩
              have hT : tl_ ⟨3, 0, t, i, c, false, r0, r1, r2, r3, 0, 0, []⟩ = [rn r0, dcl r1.toNat, dcl r2.toNat, dcl r3.toNat] := by
                unfold tl_
                simp
                omega
              clear h1 h2 h3
              have HC : Hid (Rs OB SB XB RB w ([rn r0, dcl r1.toNat, dcl r2.toNat, dcl r3.toNat]) [.int .i64 3, .int .i64 0, .int .i64 t, .int .i64 i, .int .i64 c, .bool false, .int .i64 0, .int .i64 0, .int .i64 0, .int .i64 0, .int .i64 0, .int .i64 0, .slice none 0 0] wc) := Lib.hid (by
                have h1 := HCT.out
                rw [HTL.out, hT] at h1
                exact h1)
              clear hT
              have hh : Rd XB SB (rn r0 :: [dcl r1.toNat, dcl r2.toNat, dcl r3.toNat]) wc := HC.out.rd
              obtain ⟨kk, cc, y24, y25, hcc⟩ := hh.head
              have HCC9 := Lib.hid hcc
              clear hh hcc
              have hz : ((Bs (rn r0)).toList == [101, 114, 114, 111, 114]) = false := by rw [eqE]; exact rn_err _
              have HR0 := Lib.hid hr0
              have HRR := Lib.hid hrr
              clear hr0 hrr
              have y0 : wc.cell? ⟨RB, 0, none⟩ = some (.int .i64 3) := HC.out.rb.cell 0 _ rfl
              go_wp2_with fail
              clear y24 y25 hz
              refine (kind_rname XB SB r0 (rn r0) [dcl r1.toNat, dcl r2.toNat, dcl r3.toNat] wc HC.out.rd (rn_first ⟨by have := HR0.out; omega, HR0.out.2⟩)).mono ?_
              rintro e135 w135 ⟨rfl, hr135, hk135⟩
              have HC135 : Hid (Rs OB SB XB RB w ([dcl r1.toNat, dcl r2.toNat, dcl r3.toNat]) [.int .i64 3, .int .i64 0, .int .i64 t, .int .i64 i, .int .i64 c, .bool false, .int .i64 0, .int .i64 0, .int .i64 0, .int .i64 0, .int .i64 0, .int .i64 0, .slice none 0 0] w135) := Lib.hid (HC.out.call hr135 hk135)
              clear hr135 hk135
              have yb : w135.cell? ⟨RB, 6, none⟩ = some (.int .i64 0) := HC135.out.rb.cell 6 _ rfl
              have yf : w135.frozen? ⟨RB, 6, none⟩ = false := HC135.out.rb.frz 6
              go_upto_region 18 with fail
              have hs137 : Rs OB SB XB RB w ([dcl r1.toNat, dcl r2.toNat, dcl r3.toNat]) [.int .i64 3, .int .i64 0, .int .i64 t, .int .i64 i, .int .i64 c, .bool false, .int .i64 r0, .int .i64 0, .int .i64 0, .int .i64 0, .int .i64 0, .int .i64 0, .slice none 0 0] (w135.setCell ⟨RB, 6, none⟩ (.int .i64 r0)) := HC135.out.set 6 (.int .i64 r0)
              clear yb yf
              obtain ⟨v137, hv137⟩ : ∃ v, v = w135.setCell ⟨RB, 6, none⟩ (.int .i64 r0) := ⟨_, rfl⟩
              rw [← hv137] at hs137 ⊢
              have HS137 := Lib.hid hs137
              clear hs137 hv137
              have y6 : v137.cell? ⟨RB, 6, none⟩ = some (.int .i64 r0) := HS137.out.rb.cell 6 _ rfl
              have e0 : (r0 == 0) = false := beq_eq_false_iff_ne.2 (by have := HR0.out; omega)
              go_wp2_with fail
              refine (number_int XB SB r1 HRR.out.1 _ v137 HS137.out.rd).mono ?_
              rintro e138 w138 ⟨rfl, hr138, hk138⟩
              have HC138 : Hid (Rs OB SB XB RB w ([dcl r2.toNat, dcl r3.toNat]) [.int .i64 3, .int .i64 0, .int .i64 t, .int .i64 i, .int .i64 c, .bool false, .int .i64 r0, .int .i64 0, .int .i64 0, .int .i64 0, .int .i64 0, .int .i64 0, .slice none 0 0] w138) := Lib.hid (HS137.out.call hr138 hk138)
              clear hr138 hk138
              go_wp2_with fail
              refine (number_int XB SB r2 HRR.out.2.1 _ w138 HC138.out.rd).mono ?_
              rintro e139 w139 ⟨rfl, hr139, hk139⟩
              have HC139 : Hid (Rs OB SB XB RB w ([dcl r3.toNat]) [.int .i64 3, .int .i64 0, .int .i64 t, .int .i64 i, .int .i64 c, .bool false, .int .i64 r0, .int .i64 0, .int .i64 0, .int .i64 0, .int .i64 0, .int .i64 0, .slice none 0 0] w139) := Lib.hid (HC138.out.call hr139 hk139)
              clear hr139 hk139
              go_wp2_with fail
              refine (number_int XB SB r3 HRR.out.2.2 _ w139 HC139.out.rd).mono ?_
              rintro e140 w140 ⟨rfl, hr140, hk140⟩
              have HC140 : Hid (Rs OB SB XB RB w ([]) [.int .i64 3, .int .i64 0, .int .i64 t, .int .i64 i, .int .i64 c, .bool false, .int .i64 r0, .int .i64 0, .int .i64 0, .int .i64 0, .int .i64 0, .int .i64 0, .slice none 0 0] w140) := Lib.hid (HC139.out.call hr140 hk140)
              clear hr140 hk140
              have y7 : w140.cell? ⟨RB, 7, none⟩ = some (.int .i64 0) := HC140.out.rb.cell 7 _ rfl
              have y8 : w140.cell? ⟨RB, 8, none⟩ = some (.int .i64 0) := HC140.out.rb.cell 8 _ rfl
              have y9 : w140.cell? ⟨RB, 9, none⟩ = some (.int .i64 0) := HC140.out.rb.cell 9 _ rfl
              have f7 : w140.frozen? ⟨RB, 7, none⟩ = false := HC140.out.rb.frz 7
              have f8 : w140.frozen? ⟨RB, 8, none⟩ = false := HC140.out.rb.frz 8
              have f9 : w140.frozen? ⟨RB, 9, none⟩ = false := HC140.out.rb.frz 9
              go_wp2_with fail
              go_meet
              case rel => exact Lib.hid ⟨none, 0, _, ((HC140.out.set 7 (.int .i64 r1)).set 8 (.int .i64 r2)).set 9 (.int .i64 r3), World.ownsRow_nil _ _ _ _⟩
        · as_aux_lemma =>
            obtain rfl := rt_ask HRT.out (by decide)
            obtain ⟨rfl, rfl, rfl, rfl, rfl, rfl⟩ := rt_recs HRT.out (by decide)
            have hT : tl_ ⟨4, 0, t, i, c, false, 0, 0, 0, 0, 0, 0, L⟩ = L.flatMap lw := by unfold tl_; simp
            have HC : Hid (Rs OB SB XB RB w (L.flatMap lw) [.int .i64 4, .int .i64 0, .int .i64 t, .int .i64 i, .int .i64 c, .bool false, .int .i64 0, .int .i64 0, .int .i64 0, .int .i64 0, .int .i64 0, .int .i64 0, .slice none 0 0] wc) := Lib.hid (by
              have h1 := HCT.out
              rw [HTL.out, hT] at h1
              exact h1)
            clear hT
            have HLR : Hid (∀ x ∈ L, lkR x = true) := Lib.hid (by
              rcases HRT.out.look with h | ⟨_, _, h⟩
              · have h9 : L = [] := h
                rw [h9]; simp
              · exact h)
            obtain ⟨i0s, hii, hiz⟩ := Option.map_eq_some_iff.1 infoLk
            obtain ⟨hz0, hz1, hz2⟩ : i0s.zero = some (.agg #[.int .i64 0, .int .i64 0, .int .i64 0]) ∧ i0s.size = 3 ∧ i0s.bytes = 24 := by simpa using hiz
            have HII := Lib.hid hii
            have HZ0 := Lib.hid hz0
            have HZ1 := Lib.hid hz1
            have HZ2 := Lib.hid hz2
            clear hii hiz hz0 hz1 hz2
            have HM00 : Hid ((0 ≤ L.length ∧ Rs OB SB XB RB w ((L.drop 0).flatMap lw) [.int .i64 4, .int .i64 0, .int .i64 t, .int .i64 i, .int .i64 c, .bool false, .int .i64 0, .int .i64 0, .int .i64 0, .int .i64 0, .int .i64 0, .int .i64 0, .slice none 0 0] wc ∧ wc.ownsRow (RB + 1) 54 3 (.slice none 0 0) 0 (lcs (L.take 0)))) := Lib.hid ⟨Nat.zero_le _, by have := HC.out; rwa [List.drop_zero], World.ownsRow_nil _ _ _ _⟩
            go_upto_region 11 with fail
            go_cut [23] (fun s wx => s = .bool false ∧ wx = wc)
            case first =>
              cases L with
              | nil =>
                obtain ⟨a0, c0, y24⟩ := HC.out.rd.none
                go_wp2_with fail
                go_meet
                case rel => exact ⟨rfl, rfl⟩
              | cons x L2 =>
                have hh : Rd XB SB (ln x.k :: dcl x.l.toNat :: dcl x.f.toNat :: L2.flatMap lw) wc := HC.out.rd
                obtain ⟨kk, cc, y24, y25, hcc⟩ := hh.head
                have HCC9 := Lib.hid hcc
                have hz : ((Bs (ln x.k)).toList == [101, 114, 114, 111, 114]) = false := by rw [eqE]; exact ln_err _
                rw [List.length_cons, List.length_cons, List.length_cons] at y24
                obtain ⟨m, hm⟩ : ∃ m, m = (L2.flatMap lw).length + 1 + 1 := ⟨_, rfl⟩
                rw [← hm] at y24
                have q3 : (0 : Int) < (m : Int) + 1 := by omega
                clear hh hcc hm
                go_wp2_with fail
                go_meet
                case rel => exact ⟨rfl, rfl⟩
            case rest =>
              obtain ⟨rfl, hwc⟩ := hcut
              subst hwc
              have y0 : wc.cell? ⟨RB, 0, none⟩ = some (.int .i64 4) := HC.out.rb.cell 0 _ rfl
              go_wp2_with fail
              go_loopw [] (fun wr => ∃ (n : Nat) (A6 : Option Addr) (c6 : Nat), Hid (n ≤ L.length ∧ Rs OB SB XB RB w ((L.drop n).flatMap lw) [.int .i64 4, .int .i64 0, .int .i64 t, .int .i64 i, .int .i64 c, .bool false, .int .i64 0, .int .i64 0, .int .i64 0, .int .i64 0, .int .i64 0, .int .i64 0, .slice A6 n c6] wr ∧ wr.ownsRow (RB + 1) 54 3 (.slice A6 n c6) n (lcs (L.take n)))) (fun wr => todo XB wr)
              case atStart => exact ⟨0, none, 0, HM00⟩
              case round =>
                clear y0
                clear HM00
                obtain ⟨n, A6, c6, HM⟩ := hrel
                by_cases hlt : n < L.length
                · obtain ⟨x, hx⟩ : ∃ x, L[n]? = some x := ⟨_, List.getElem?_eq_getElem hlt⟩
                  have ha := lkR_out (HLR.out x (List.mem_of_getElem? hx))
                  have hd : (L.drop n).flatMap lw = lw x ++ (L.drop (n + 1)).flatMap lw := by
                    rw [List.drop_eq_getElem_cons hlt, List.flatMap_cons]
                    rw [List.getElem?_eq_getElem hlt] at hx
                    injection hx with hx
                    rw [hx]
                  have hXX : lcs (L.take (n + 1)) = lcs (L.take n) ++ [.int .i64 x.k, .int .i64 x.l, .int .i64 x.f] := by
                    rw [List.take_add_one, hx, lcs_append]
                    rfl
                  obtain ⟨xk, xl, xf⟩ := x
                  simp only at ha hXX
                  have HXK := Lib.hid ha
                  have HXX := Lib.hid hXX
                  obtain ⟨DR, hDR⟩ : ∃ DR, DR = (L.drop (n + 1)).flatMap lw := ⟨_, rfl⟩
                  have hd2 : (L.drop n).flatMap lw = ln xk :: dcl xl.toNat :: dcl xf.toNat :: DR := by rw [hd, hDR]; rfl
                  have h0 : Hid (Rs OB SB XB RB w (ln xk :: dcl xl.toNat :: dcl xf.toNat :: DR) [.int .i64 4, .int .i64 0, .int .i64 t, .int .i64 i, .int .i64 c, .bool false, .int .i64 0, .int .i64 0, .int .i64 0, .int .i64 0, .int .i64 0, .int .i64 0, .slice A6 n c6] wr ∧ wr.ownsRow (RB + 1) 54 3 (.slice A6 n c6) n (lcs (L.take n))) := Lib.hid ⟨by have := HM.out.2.1; rwa [hd2] at this, HM.out.2.2⟩
                  have HDE := Lib.hid hDR
                  have HTD := Lib.hid h0.out.1.rd.todo
                  have HDL : Hid (DR.length < (ln xk :: dcl xl.toNat :: dcl xf.toNat :: DR).length) := Lib.hid (by simp; omega)
                  have HLT := Lib.hid hlt
                  have N1 := Lib.hid (show n + 1 ≤ maxLen from by have := HLL.out; unfold maxLen; omega)
                  have N2 := Lib.hid (show (n + 1) * 24 ≤ 140737488355328 from by have := HLL.out; omega)
                  obtain ⟨kk, cc, y24, y25, hcc⟩ := h0.out.1.rd.head
                  clear y25 hcc hd hd2 hDR hXX hx ha hlt
                  have gd : Below wr.heap.size wr wr.drew := (Below.refl _ _).drew
                  have HW0 : Hid (Rs OB SB XB RB w (ln xk :: dcl xl.toNat :: dcl xf.toNat :: DR) [.int .i64 4, .int .i64 0, .int .i64 t, .int .i64 i, .int .i64 c, .bool false, .int .i64 0, .int .i64 0, .int .i64 0, .int .i64 0, .int .i64 0, .int .i64 0, .slice A6 n c6] wr.drew ∧ wr.drew.ownsRow (RB + 1) 54 3 (.slice A6 n c6) n (lcs (L.take n))) := Lib.hid ⟨h0.out.1.below gd, rkept h0.out.2 gd⟩
                  clear gd h0
                  go_wp2_with fail
                  clear y24
                  refine wp_region_held_drew (S := fun _ => True) (by kernel_rfl) trivial (fun _ => ?_)
                  generalize wr.drew = WD at HW0 ⊢
                  refine wpAnyH_take (i := 0) (oi := { dst := some 73, op := Op.fieldAddr 27 (Operand.tmp 4) 7, type := 0, pos := "answer.go:167", after := #[], guard := none }) (v := .pointer (some ⟨RB, 12, none⟩)) rfl (by as_aux_lemma => kernel_rfl) (by as_aux_lemma => kernel_rfl) (by as_aux_lemma => kernel_rfl) (fun _ _ _ h => h) (Or.inl ⟨by rfl, ?_⟩) (by assumption) ?_
                  · intro wq hSw
                    go_simp
                    try with_reducible rfl
                  simp only [Act.put, List.setIfInBounds_toArray, List.set_cons_zero, List.set_cons_succ]
                  refine wpAnyH_ready (rs := [1, 2]) (by as_aux_lemma => kernel_rfl) (by simp) ?_
                  refine AllReadyH.cons (o := { dst := some 74, op := Op.load 25 (Operand.tmp 73), type := 25, pos := "answer.go:167", after := #[{ on := 0, ground := Ground.data }], guard := none }) rfl (fun K2 hK => ?_) (AllReadyH.cons (o := { dst := some 75, op := Op.call { callee := Callee.value (Operand.func 48), args := #[Operand.tmp 3, Operand.const (Value.int IntKind.i64 0), Operand.const (Value.int IntKind.i64 8), Operand.func 24], argTypes := #[90, 3, 3, 47] }, type := 3, pos := "answer.go:167", after := #[], guard := none }) rfl (fun K2 hK => ?_) AllReadyH.nil)
                  · have xl9 : WD.cell? ⟨RB, 12, none⟩ = some (.slice A6 n c6) := HW0.out.1.rb.cell 12 _ rfl
                    go_simp
                    clear xl9
                    refine hK.out _ _ trivial (fun _ => ?_)
                    clear hK K2
                    try simp only [Act.put, List.setIfInBounds_toArray, List.set_cons_zero, List.set_cons_succ]
                    refine wpAnyH_ready (rs := [2]) (by as_aux_lemma => kernel_rfl) (by simp) ?_
                    refine AllReadyH.cons (o := { dst := some 75, op := Op.call { callee := Callee.value (Operand.func 48), args := #[Operand.tmp 3, Operand.const (Value.int IntKind.i64 0), Operand.const (Value.int IntKind.i64 8), Operand.func 24], argTypes := #[90, 3, 3, 47] }, type := 3, pos := "answer.go:167", after := #[], guard := none }) rfl (fun K2 hK => ?_) AllReadyH.nil
                    go_simp
                    go_at_call 48
                    refine (kind_look XB SB xk (ln xk) (dcl xl.toNat :: dcl xf.toNat :: DR) WD HW0.out.1.rd (Or.inl ⟨by have := HXK.out.1; omega, by have := HXK.out.1; omega, rfl, ln_first HXK.out.1⟩)).mono ?_
                    rintro e1 q1 ⟨rfl, hr1, hk1⟩
                    have HL1 : Hid (Rs OB SB XB RB w (dcl xl.toNat :: dcl xf.toNat :: DR) [.int .i64 4, .int .i64 0, .int .i64 t, .int .i64 i, .int .i64 c, .bool false, .int .i64 0, .int .i64 0, .int .i64 0, .int .i64 0, .int .i64 0, .int .i64 0, .slice A6 n c6] q1 ∧ q1.ownsRow (RB + 1) 54 3 (.slice A6 n c6) n (lcs (L.take n))) := Lib.hid ⟨HW0.out.1.call hr1 hk1, rkp HW0.out.2 hk1 (by have := HW0.out.1.o; omega)⟩
                    clear hr1 hk1
                    refine hK.out _ _ trivial (fun _ => ?_)
                    clear hK K2
                    try simp only [Act.put, List.setIfInBounds_toArray, List.set_cons_zero, List.set_cons_succ]
                    refine wpAnyH_ready (rs := [3]) (by as_aux_lemma => kernel_rfl) (by simp) ?_
                    refine AllReadyH.cons (o := { dst := some 76, op := Op.call { callee := Callee.value (Operand.func 47), args := #[Operand.tmp 3], argTypes := #[90] }, type := 3, pos := "answer.go:167", after := #[{ on := 2, ground := Ground.chain }], guard := none }) rfl (fun K2 hK => ?_) AllReadyH.nil
                    go_simp
                    go_at_call 47
                    refine (number_int XB SB xl HXK.out.2.1 (dcl xf.toNat :: DR) q1 HL1.out.1.rd).mono ?_
                    rintro e2 q2 ⟨rfl, hr2, hk2⟩
                    have HL2 : Hid (Rs OB SB XB RB w (dcl xf.toNat :: DR) [.int .i64 4, .int .i64 0, .int .i64 t, .int .i64 i, .int .i64 c, .bool false, .int .i64 0, .int .i64 0, .int .i64 0, .int .i64 0, .int .i64 0, .int .i64 0, .slice A6 n c6] q2 ∧ q2.ownsRow (RB + 1) 54 3 (.slice A6 n c6) n (lcs (L.take n))) := Lib.hid ⟨HL1.out.1.call hr2 hk2, rkp HL1.out.2 hk2 (by have := HL1.out.1.o; omega)⟩
                    clear hr2 hk2
                    refine hK.out _ _ trivial (fun _ => ?_)
                    clear hK K2
                    try simp only [Act.put, List.setIfInBounds_toArray, List.set_cons_zero, List.set_cons_succ]
                    refine wpAnyH_ready (rs := [4]) (by as_aux_lemma => kernel_rfl) (by simp) ?_
                    refine AllReadyH.cons (o := { dst := some 77, op := Op.call { callee := Callee.value (Operand.func 47), args := #[Operand.tmp 3], argTypes := #[90] }, type := 3, pos := "answer.go:167", after := #[{ on := 3, ground := Ground.chain }], guard := none }) rfl (fun K2 hK => ?_) AllReadyH.nil
                    go_simp
                    go_at_call 47
                    refine (number_int XB SB xf HXK.out.2.2 DR q2 HL2.out.1.rd).mono ?_
                    rintro e3 q3 ⟨rfl, hr3, hk3⟩
                    have HL3 : Hid (Rs OB SB XB RB w (DR) [.int .i64 4, .int .i64 0, .int .i64 t, .int .i64 i, .int .i64 c, .bool false, .int .i64 0, .int .i64 0, .int .i64 0, .int .i64 0, .int .i64 0, .int .i64 0, .slice A6 n c6] q3 ∧ q3.ownsRow (RB + 1) 54 3 (.slice A6 n c6) n (lcs (L.take n))) := Lib.hid ⟨HL2.out.1.call hr3 hk3, rkp HL2.out.2 hk3 (by have := HL2.out.1.o; omega)⟩
                    clear hr3 hk3
                    refine hK.out _ _ trivial (fun _ => ?_)
                    clear hK K2
                    try simp only [Act.put, List.setIfInBounds_toArray, List.set_cons_zero, List.set_cons_succ]
                    refine wpAnyH_take (i := 5) (oi := { dst := some 78, op := Op.build 54 #[(0, Operand.tmp 75), (1, Operand.tmp 76), (2, Operand.tmp 77)], type := 54, pos := "answer.go:167", after := #[{ on := 2, ground := Ground.data }, { on := 3, ground := Ground.data }, { on := 4, ground := Ground.data }], guard := none }) (v := .agg #[.int .i64 xk, .int .i64 xl, .int .i64 xf]) rfl (by as_aux_lemma => kernel_rfl) (by as_aux_lemma => kernel_rfl) (by as_aux_lemma => kernel_rfl) (fun _ _ _ h => h) (Or.inl ⟨by rfl, ?_⟩) (by assumption) ?_
                    · intro wq hSw
                      go_simp
                      try with_reducible rfl
                    simp only [Act.put, List.setIfInBounds_toArray, List.set_cons_zero, List.set_cons_succ]
                    refine wpAnyH_ready (rs := [6]) (by as_aux_lemma => kernel_rfl) (by simp) ?_
                    refine AllReadyH.cons (o := { dst := some 79, op := Op.buildSlice 25 1 #[(0, Operand.tmp 78)], type := 25, pos := "answer.go:167", after := #[{ on := 5, ground := Ground.data }], guard := none }) rfl (fun K2 hK => ?_) AllReadyH.nil
                    have g9 : Below q3.heap.size q3 (q3.alloc (.cells (List.toArray [.int .i64 xk, .int .i64 xl, .int .i64 xf]) 54)) := by go_grown
                    have HW9 : Hid (Rs OB SB XB RB w (DR) [.int .i64 4, .int .i64 0, .int .i64 t, .int .i64 i, .int .i64 c, .bool false, .int .i64 0, .int .i64 0, .int .i64 0, .int .i64 0, .int .i64 0, .int .i64 0, .slice A6 n c6] (q3.alloc (.cells (List.toArray [.int .i64 xk, .int .i64 xl, .int .i64 xf]) 54)) ∧ (q3.alloc (.cells (List.toArray [.int .i64 xk, .int .i64 xl, .int .i64 xf]) 54)).ownsRow (RB + 1) 54 3 (.slice A6 n c6) n (lcs (L.take n))) := Lib.hid ⟨HL3.out.1.below g9, rkept HL3.out.2 g9⟩
                    have HRD := Lib.hid (reads_newN q3 1 3 [.int .i64 xk, .int .i64 xl, .int .i64 xf] 54 rfl)
                    have N3 := Lib.hid (show RB + 1 ≤ (q3.alloc (.cells (List.toArray [.int .i64 xk, .int .i64 xl, .int .i64 xf]) 54)).heap.size from by have := HW9.out.1.rb.lt; omega)
                    clear g9
                    go_simp
                    refine hK.out _ _ trivial (fun _ => ?_)
                    clear hK K2
                    try simp only [Act.put, List.setIfInBounds_toArray, List.set_cons_zero, List.set_cons_succ]
                    refine wpAnyH_ready (rs := [7]) (by as_aux_lemma => kernel_rfl) (by simp) ?_
                    refine AllReadyH.cons (o := { dst := some 80, op := Op.call { callee := Callee.builtin Builtin.append, args := #[Operand.tmp 74, Operand.tmp 79], argTypes := #[25, 25] }, type := 25, pos := "answer.go:167", after := #[{ on := 1, ground := Ground.data }, { on := 6, ground := Ground.data }, { on := 4, ground := Ground.chain }], guard := none }) rfl (fun K2 hK => ?_) AllReadyH.nil
                    refine wp_append_any _ (.tmp 74) (.tmp 79) 25 rfl (RB + 1) 54 i0s (.agg #[.int .i64 0, .int .i64 0, .int .i64 0]) 3 24 Tryz.underlying25 HII.out HZ0.out HZ1.out HZ2.out rfl (by decide) _ n (lcs (L.take n)) rfl HW9.out.2 _ _ 1 1 [.int .i64 xk, .int .i64 xl, .int .i64 xf] rfl HRD.out (by intro u hu; simp only [List.mem_cons, List.not_mem_nil, or_false] at hu; rcases hu with rfl | rfl | rfl <;> rfl) N1.out N2.out N3.out (fun v3 w8 hown3 hgrow3 hblk3 => ?_)
                    obtain ⟨A8, c8, hv8⟩ := oshape hown3
                    subst hv8
                    have HPP := Lib.hid (And.intro hown3 (And.intro hgrow3 hblk3))
                    have HB8 : Hid (Rs OB SB XB RB w (DR) [.int .i64 4, .int .i64 0, .int .i64 t, .int .i64 i, .int .i64 c, .bool false, .int .i64 0, .int .i64 0, .int .i64 0, .int .i64 0, .int .i64 0, .int .i64 0, .slice A6 n c6] w8) := Lib.hid (HW9.out.1.grown hgrow3 (fun b e => by have := HW9.out.2.lt b e; omega))
                    clear hown3 hgrow3 hblk3
                    refine hK.out _ _ trivial (fun _ => ?_)
                    clear hK K2
                    try simp only [Act.put, List.setIfInBounds_toArray, List.set_cons_zero, List.set_cons_succ]
                    refine wpAnyH_take (i := 8) (oi := { dst := some 81, op := Op.fieldAddr 27 (Operand.tmp 4) 7, type := 0, pos := "answer.go:167", after := #[{ on := 0, ground := Ground.phase }, { on := 1, ground := Ground.phase }, { on := 2, ground := Ground.phase }, { on := 3, ground := Ground.phase }, { on := 4, ground := Ground.phase }, { on := 5, ground := Ground.phase }, { on := 6, ground := Ground.phase }, { on := 7, ground := Ground.phase }], guard := none }) (v := .pointer (some ⟨RB, 12, none⟩)) rfl (by as_aux_lemma => kernel_rfl) (by as_aux_lemma => kernel_rfl) (by as_aux_lemma => kernel_rfl) (fun _ _ _ h => h) (Or.inl ⟨by rfl, ?_⟩) (by assumption) ?_
                    · intro wq hSw
                      go_simp
                      try with_reducible rfl
                    simp only [Act.put, List.setIfInBounds_toArray, List.set_cons_zero, List.set_cons_succ]
                    refine wpAnyH_ready (rs := [9]) (by as_aux_lemma => kernel_rfl) (by simp) ?_
                    refine AllReadyH.cons (o := { dst := none, op := Op.store 25 (Operand.tmp 81) (Operand.tmp 80), type := 0, pos := "answer.go:167", after := #[{ on := 8, ground := Ground.data }, { on := 7, ground := Ground.data }, { on := 7, ground := Ground.chain }, { on := 0, ground := Ground.phase }, { on := 1, ground := Ground.phase }, { on := 2, ground := Ground.phase }, { on := 3, ground := Ground.phase }, { on := 4, ground := Ground.phase }, { on := 5, ground := Ground.phase }, { on := 6, ground := Ground.phase }, { on := 7, ground := Ground.phase }], guard := none }) rfl (fun K2 hK => ?_) AllReadyH.nil
                    have xb : w8.cell? ⟨RB, 12, none⟩ = some (.slice A6 n c6) := HB8.out.rb.cell 12 _ rfl
                    have xf9 := HB8.out.rb.frz 12
                    go_simp
                    clear xb xf9
                    refine hK.out _ _ trivial (fun _ => ?_)
                    clear hK K2
                    try simp only [Act.put, List.setIfInBounds_toArray, List.set_cons_zero, List.set_cons_succ]
                    refine wpAnyH_done (by as_aux_lemma => kernel_rfl) ?_ _
                    go_wp2_with fail
                    go_roundw
                    case rel =>
                      refine ⟨n + 1, A8, c8, Lib.hid ⟨HLT.out, ?_, ?_⟩⟩
                      · rw [← HDE.out]
                        exact HB8.out.set 12 _
                      · rw [HXX.out]
                        exact rfar HPP.out.1 (fun b h1 h2 => Below.heap_setCell w8 ⟨RB, 12, none⟩ _ b (by show b ≠ RB; omega))
                    case measure =>
                      rw [HTD.out, (HB8.out.set 12 _).rd.todo]
                      have := HDL.out
                      omega
                  · go_simp
                    go_at_call 48
                    refine (kind_look XB SB xk (ln xk) (dcl xl.toNat :: dcl xf.toNat :: DR) WD HW0.out.1.rd (Or.inl ⟨by have := HXK.out.1; omega, by have := HXK.out.1; omega, rfl, ln_first HXK.out.1⟩)).mono ?_
                    rintro e5 q5 ⟨rfl, hr5, hk5⟩
                    have HL5 : Hid (Rs OB SB XB RB w (dcl xl.toNat :: dcl xf.toNat :: DR) [.int .i64 4, .int .i64 0, .int .i64 t, .int .i64 i, .int .i64 c, .bool false, .int .i64 0, .int .i64 0, .int .i64 0, .int .i64 0, .int .i64 0, .int .i64 0, .slice A6 n c6] q5 ∧ q5.ownsRow (RB + 1) 54 3 (.slice A6 n c6) n (lcs (L.take n))) := Lib.hid ⟨HW0.out.1.call hr5 hk5, rkp HW0.out.2 hk5 (by have := HW0.out.1.o; omega)⟩
                    clear hr5 hk5
                    refine hK.out _ _ trivial (fun _ => ?_)
                    clear hK K2
                    try simp only [Act.put, List.setIfInBounds_toArray, List.set_cons_zero, List.set_cons_succ]
                    refine wpAnyH_ready (rs := [1, 3]) (by as_aux_lemma => kernel_rfl) (by simp) ?_
                    refine AllReadyH.cons (o := { dst := some 74, op := Op.load 25 (Operand.tmp 73), type := 25, pos := "answer.go:167", after := #[{ on := 0, ground := Ground.data }], guard := none }) rfl (fun K2 hK => ?_) (AllReadyH.cons (o := { dst := some 76, op := Op.call { callee := Callee.value (Operand.func 47), args := #[Operand.tmp 3], argTypes := #[90] }, type := 3, pos := "answer.go:167", after := #[{ on := 2, ground := Ground.chain }], guard := none }) rfl (fun K2 hK => ?_) AllReadyH.nil)
                    · have xl9 : q5.cell? ⟨RB, 12, none⟩ = some (.slice A6 n c6) := HL5.out.1.rb.cell 12 _ rfl
                      go_simp
                      clear xl9
                      refine hK.out _ _ trivial (fun _ => ?_)
                      clear hK K2
                      try simp only [Act.put, List.setIfInBounds_toArray, List.set_cons_zero, List.set_cons_succ]
                      refine wpAnyH_ready (rs := [3]) (by as_aux_lemma => kernel_rfl) (by simp) ?_
                      refine AllReadyH.cons (o := { dst := some 76, op := Op.call { callee := Callee.value (Operand.func 47), args := #[Operand.tmp 3], argTypes := #[90] }, type := 3, pos := "answer.go:167", after := #[{ on := 2, ground := Ground.chain }], guard := none }) rfl (fun K2 hK => ?_) AllReadyH.nil
                      go_simp
                      go_at_call 47
                      refine (number_int XB SB xl HXK.out.2.1 (dcl xf.toNat :: DR) q5 HL5.out.1.rd).mono ?_
                      rintro e6 q6 ⟨rfl, hr6, hk6⟩
                      have HL6 : Hid (Rs OB SB XB RB w (dcl xf.toNat :: DR) [.int .i64 4, .int .i64 0, .int .i64 t, .int .i64 i, .int .i64 c, .bool false, .int .i64 0, .int .i64 0, .int .i64 0, .int .i64 0, .int .i64 0, .int .i64 0, .slice A6 n c6] q6 ∧ q6.ownsRow (RB + 1) 54 3 (.slice A6 n c6) n (lcs (L.take n))) := Lib.hid ⟨HL5.out.1.call hr6 hk6, rkp HL5.out.2 hk6 (by have := HL5.out.1.o; omega)⟩
                      clear hr6 hk6
                      refine hK.out _ _ trivial (fun _ => ?_)
                      clear hK K2
                      try simp only [Act.put, List.setIfInBounds_toArray, List.set_cons_zero, List.set_cons_succ]
                      refine wpAnyH_ready (rs := [4]) (by as_aux_lemma => kernel_rfl) (by simp) ?_
                      refine AllReadyH.cons (o := { dst := some 77, op := Op.call { callee := Callee.value (Operand.func 47), args := #[Operand.tmp 3], argTypes := #[90] }, type := 3, pos := "answer.go:167", after := #[{ on := 3, ground := Ground.chain }], guard := none }) rfl (fun K2 hK => ?_) AllReadyH.nil
                      go_simp
                      go_at_call 47
                      refine (number_int XB SB xf HXK.out.2.2 DR q6 HL6.out.1.rd).mono ?_
                      rintro e7 q7 ⟨rfl, hr7, hk7⟩
                      have HL7 : Hid (Rs OB SB XB RB w (DR) [.int .i64 4, .int .i64 0, .int .i64 t, .int .i64 i, .int .i64 c, .bool false, .int .i64 0, .int .i64 0, .int .i64 0, .int .i64 0, .int .i64 0, .int .i64 0, .slice A6 n c6] q7 ∧ q7.ownsRow (RB + 1) 54 3 (.slice A6 n c6) n (lcs (L.take n))) := Lib.hid ⟨HL6.out.1.call hr7 hk7, rkp HL6.out.2 hk7 (by have := HL6.out.1.o; omega)⟩
                      clear hr7 hk7
                      refine hK.out _ _ trivial (fun _ => ?_)
                      clear hK K2
                      try simp only [Act.put, List.setIfInBounds_toArray, List.set_cons_zero, List.set_cons_succ]
                      refine wpAnyH_take (i := 5) (oi := { dst := some 78, op := Op.build 54 #[(0, Operand.tmp 75), (1, Operand.tmp 76), (2, Operand.tmp 77)], type := 54, pos := "answer.go:167", after := #[{ on := 2, ground := Ground.data }, { on := 3, ground := Ground.data }, { on := 4, ground := Ground.data }], guard := none }) (v := .agg #[.int .i64 xk, .int .i64 xl, .int .i64 xf]) rfl (by as_aux_lemma => kernel_rfl) (by as_aux_lemma => kernel_rfl) (by as_aux_lemma => kernel_rfl) (fun _ _ _ h => h) (Or.inl ⟨by rfl, ?_⟩) (by assumption) ?_
                      · intro wq hSw
                        go_simp
                        try with_reducible rfl
                      simp only [Act.put, List.setIfInBounds_toArray, List.set_cons_zero, List.set_cons_succ]
                      refine wpAnyH_ready (rs := [6]) (by as_aux_lemma => kernel_rfl) (by simp) ?_
                      refine AllReadyH.cons (o := { dst := some 79, op := Op.buildSlice 25 1 #[(0, Operand.tmp 78)], type := 25, pos := "answer.go:167", after := #[{ on := 5, ground := Ground.data }], guard := none }) rfl (fun K2 hK => ?_) AllReadyH.nil
                      have g9 : Below q7.heap.size q7 (q7.alloc (.cells (List.toArray [.int .i64 xk, .int .i64 xl, .int .i64 xf]) 54)) := by go_grown
                      have HW9 : Hid (Rs OB SB XB RB w (DR) [.int .i64 4, .int .i64 0, .int .i64 t, .int .i64 i, .int .i64 c, .bool false, .int .i64 0, .int .i64 0, .int .i64 0, .int .i64 0, .int .i64 0, .int .i64 0, .slice A6 n c6] (q7.alloc (.cells (List.toArray [.int .i64 xk, .int .i64 xl, .int .i64 xf]) 54)) ∧ (q7.alloc (.cells (List.toArray [.int .i64 xk, .int .i64 xl, .int .i64 xf]) 54)).ownsRow (RB + 1) 54 3 (.slice A6 n c6) n (lcs (L.take n))) := Lib.hid ⟨HL7.out.1.below g9, rkept HL7.out.2 g9⟩
                      have HRD := Lib.hid (reads_newN q7 1 3 [.int .i64 xk, .int .i64 xl, .int .i64 xf] 54 rfl)
                      have N3 := Lib.hid (show RB + 1 ≤ (q7.alloc (.cells (List.toArray [.int .i64 xk, .int .i64 xl, .int .i64 xf]) 54)).heap.size from by have := HW9.out.1.rb.lt; omega)
                      clear g9
                      go_simp
                      refine hK.out _ _ trivial (fun _ => ?_)
                      clear hK K2
                      try simp only [Act.put, List.setIfInBounds_toArray, List.set_cons_zero, List.set_cons_succ]
                      refine wpAnyH_ready (rs := [7]) (by as_aux_lemma => kernel_rfl) (by simp) ?_
                      refine AllReadyH.cons (o := { dst := some 80, op := Op.call { callee := Callee.builtin Builtin.append, args := #[Operand.tmp 74, Operand.tmp 79], argTypes := #[25, 25] }, type := 25, pos := "answer.go:167", after := #[{ on := 1, ground := Ground.data }, { on := 6, ground := Ground.data }, { on := 4, ground := Ground.chain }], guard := none }) rfl (fun K2 hK => ?_) AllReadyH.nil
                      refine wp_append_any _ (.tmp 74) (.tmp 79) 25 rfl (RB + 1) 54 i0s (.agg #[.int .i64 0, .int .i64 0, .int .i64 0]) 3 24 Tryz.underlying25 HII.out HZ0.out HZ1.out HZ2.out rfl (by decide) _ n (lcs (L.take n)) rfl HW9.out.2 _ _ 1 1 [.int .i64 xk, .int .i64 xl, .int .i64 xf] rfl HRD.out (by intro u hu; simp only [List.mem_cons, List.not_mem_nil, or_false] at hu; rcases hu with rfl | rfl | rfl <;> rfl) N1.out N2.out N3.out (fun v3 w8 hown3 hgrow3 hblk3 => ?_)
                      obtain ⟨A8, c8, hv8⟩ := oshape hown3
                      subst hv8
                      have HPP := Lib.hid (And.intro hown3 (And.intro hgrow3 hblk3))
                      have HB8 : Hid (Rs OB SB XB RB w (DR) [.int .i64 4, .int .i64 0, .int .i64 t, .int .i64 i, .int .i64 c, .bool false, .int .i64 0, .int .i64 0, .int .i64 0, .int .i64 0, .int .i64 0, .int .i64 0, .slice A6 n c6] w8) := Lib.hid (HW9.out.1.grown hgrow3 (fun b e => by have := HW9.out.2.lt b e; omega))
                      clear hown3 hgrow3 hblk3
                      refine hK.out _ _ trivial (fun _ => ?_)
                      clear hK K2
                      try simp only [Act.put, List.setIfInBounds_toArray, List.set_cons_zero, List.set_cons_succ]
                      refine wpAnyH_take (i := 8) (oi := { dst := some 81, op := Op.fieldAddr 27 (Operand.tmp 4) 7, type := 0, pos := "answer.go:167", after := #[{ on := 0, ground := Ground.phase }, { on := 1, ground := Ground.phase }, { on := 2, ground := Ground.phase }, { on := 3, ground := Ground.phase }, { on := 4, ground := Ground.phase }, { on := 5, ground := Ground.phase }, { on := 6, ground := Ground.phase }, { on := 7, ground := Ground.phase }], guard := none }) (v := .pointer (some ⟨RB, 12, none⟩)) rfl (by as_aux_lemma => kernel_rfl) (by as_aux_lemma => kernel_rfl) (by as_aux_lemma => kernel_rfl) (fun _ _ _ h => h) (Or.inl ⟨by rfl, ?_⟩) (by assumption) ?_
                      · intro wq hSw
                        go_simp
                        try with_reducible rfl
                      simp only [Act.put, List.setIfInBounds_toArray, List.set_cons_zero, List.set_cons_succ]
                      refine wpAnyH_ready (rs := [9]) (by as_aux_lemma => kernel_rfl) (by simp) ?_
                      refine AllReadyH.cons (o := { dst := none, op := Op.store 25 (Operand.tmp 81) (Operand.tmp 80), type := 0, pos := "answer.go:167", after := #[{ on := 8, ground := Ground.data }, { on := 7, ground := Ground.data }, { on := 7, ground := Ground.chain }, { on := 0, ground := Ground.phase }, { on := 1, ground := Ground.phase }, { on := 2, ground := Ground.phase }, { on := 3, ground := Ground.phase }, { on := 4, ground := Ground.phase }, { on := 5, ground := Ground.phase }, { on := 6, ground := Ground.phase }, { on := 7, ground := Ground.phase }], guard := none }) rfl (fun K2 hK => ?_) AllReadyH.nil
                      have xb : w8.cell? ⟨RB, 12, none⟩ = some (.slice A6 n c6) := HB8.out.rb.cell 12 _ rfl
                      have xf9 := HB8.out.rb.frz 12
                      go_simp
                      clear xb xf9
                      refine hK.out _ _ trivial (fun _ => ?_)
                      clear hK K2
                      try simp only [Act.put, List.setIfInBounds_toArray, List.set_cons_zero, List.set_cons_succ]
                      refine wpAnyH_done (by as_aux_lemma => kernel_rfl) ?_ _
                      go_wp2_with fail
                      go_roundw
                      case rel =>
                        refine ⟨n + 1, A8, c8, Lib.hid ⟨HLT.out, ?_, ?_⟩⟩
                        · rw [← HDE.out]
                          exact HB8.out.set 12 _
                        · rw [HXX.out]
                          exact rfar HPP.out.1 (fun b h1 h2 => Below.heap_setCell w8 ⟨RB, 12, none⟩ _ b (by show b ≠ RB; omega))
                      case measure =>
                        rw [HTD.out, (HB8.out.set 12 _).rd.todo]
                        have := HDL.out
                        omega
                    · go_simp
                      go_at_call 47
                      refine (number_int XB SB xl HXK.out.2.1 (dcl xf.toNat :: DR) q5 HL5.out.1.rd).mono ?_
                      rintro e9 q9 ⟨rfl, hr9, hk9⟩
                      have HL9 : Hid (Rs OB SB XB RB w (dcl xf.toNat :: DR) [.int .i64 4, .int .i64 0, .int .i64 t, .int .i64 i, .int .i64 c, .bool false, .int .i64 0, .int .i64 0, .int .i64 0, .int .i64 0, .int .i64 0, .int .i64 0, .slice A6 n c6] q9 ∧ q9.ownsRow (RB + 1) 54 3 (.slice A6 n c6) n (lcs (L.take n))) := Lib.hid ⟨HL5.out.1.call hr9 hk9, rkp HL5.out.2 hk9 (by have := HL5.out.1.o; omega)⟩
                      clear hr9 hk9
                      refine hK.out _ _ trivial (fun _ => ?_)
                      clear hK K2
                      try simp only [Act.put, List.setIfInBounds_toArray, List.set_cons_zero, List.set_cons_succ]
                      refine wpAnyH_ready (rs := [1, 4]) (by as_aux_lemma => kernel_rfl) (by simp) ?_
                      refine AllReadyH.cons (o := { dst := some 74, op := Op.load 25 (Operand.tmp 73), type := 25, pos := "answer.go:167", after := #[{ on := 0, ground := Ground.data }], guard := none }) rfl (fun K2 hK => ?_) (AllReadyH.cons (o := { dst := some 77, op := Op.call { callee := Callee.value (Operand.func 47), args := #[Operand.tmp 3], argTypes := #[90] }, type := 3, pos := "answer.go:167", after := #[{ on := 3, ground := Ground.chain }], guard := none }) rfl (fun K2 hK => ?_) AllReadyH.nil)
                      · have xl9 : q9.cell? ⟨RB, 12, none⟩ = some (.slice A6 n c6) := HL9.out.1.rb.cell 12 _ rfl
                        go_simp
                        clear xl9
                        refine hK.out _ _ trivial (fun _ => ?_)
                        clear hK K2
                        try simp only [Act.put, List.setIfInBounds_toArray, List.set_cons_zero, List.set_cons_succ]
                        refine wpAnyH_ready (rs := [4]) (by as_aux_lemma => kernel_rfl) (by simp) ?_
                        refine AllReadyH.cons (o := { dst := some 77, op := Op.call { callee := Callee.value (Operand.func 47), args := #[Operand.tmp 3], argTypes := #[90] }, type := 3, pos := "answer.go:167", after := #[{ on := 3, ground := Ground.chain }], guard := none }) rfl (fun K2 hK => ?_) AllReadyH.nil
                        go_simp
                        go_at_call 47
                        refine (number_int XB SB xf HXK.out.2.2 DR q9 HL9.out.1.rd).mono ?_
                        rintro e10 q10 ⟨rfl, hr10, hk10⟩
                        have HL10 : Hid (Rs OB SB XB RB w (DR) [.int .i64 4, .int .i64 0, .int .i64 t, .int .i64 i, .int .i64 c, .bool false, .int .i64 0, .int .i64 0, .int .i64 0, .int .i64 0, .int .i64 0, .int .i64 0, .slice A6 n c6] q10 ∧ q10.ownsRow (RB + 1) 54 3 (.slice A6 n c6) n (lcs (L.take n))) := Lib.hid ⟨HL9.out.1.call hr10 hk10, rkp HL9.out.2 hk10 (by have := HL9.out.1.o; omega)⟩
                        clear hr10 hk10
                        refine hK.out _ _ trivial (fun _ => ?_)
                        clear hK K2
                        try simp only [Act.put, List.setIfInBounds_toArray, List.set_cons_zero, List.set_cons_succ]
                        refine wpAnyH_take (i := 5) (oi := { dst := some 78, op := Op.build 54 #[(0, Operand.tmp 75), (1, Operand.tmp 76), (2, Operand.tmp 77)], type := 54, pos := "answer.go:167", after := #[{ on := 2, ground := Ground.data }, { on := 3, ground := Ground.data }, { on := 4, ground := Ground.data }], guard := none }) (v := .agg #[.int .i64 xk, .int .i64 xl, .int .i64 xf]) rfl (by as_aux_lemma => kernel_rfl) (by as_aux_lemma => kernel_rfl) (by as_aux_lemma => kernel_rfl) (fun _ _ _ h => h) (Or.inl ⟨by rfl, ?_⟩) (by assumption) ?_
                        · intro wq hSw
                          go_simp
                          try with_reducible rfl
                        simp only [Act.put, List.setIfInBounds_toArray, List.set_cons_zero, List.set_cons_succ]
                        refine wpAnyH_ready (rs := [6]) (by as_aux_lemma => kernel_rfl) (by simp) ?_
                        refine AllReadyH.cons (o := { dst := some 79, op := Op.buildSlice 25 1 #[(0, Operand.tmp 78)], type := 25, pos := "answer.go:167", after := #[{ on := 5, ground := Ground.data }], guard := none }) rfl (fun K2 hK => ?_) AllReadyH.nil
                        have g9 : Below q10.heap.size q10 (q10.alloc (.cells (List.toArray [.int .i64 xk, .int .i64 xl, .int .i64 xf]) 54)) := by go_grown
                        have HW9 : Hid (Rs OB SB XB RB w (DR) [.int .i64 4, .int .i64 0, .int .i64 t, .int .i64 i, .int .i64 c, .bool false, .int .i64 0, .int .i64 0, .int .i64 0, .int .i64 0, .int .i64 0, .int .i64 0, .slice A6 n c6] (q10.alloc (.cells (List.toArray [.int .i64 xk, .int .i64 xl, .int .i64 xf]) 54)) ∧ (q10.alloc (.cells (List.toArray [.int .i64 xk, .int .i64 xl, .int .i64 xf]) 54)).ownsRow (RB + 1) 54 3 (.slice A6 n c6) n (lcs (L.take n))) := Lib.hid ⟨HL10.out.1.below g9, rkept HL10.out.2 g9⟩
                        have HRD := Lib.hid (reads_newN q10 1 3 [.int .i64 xk, .int .i64 xl, .int .i64 xf] 54 rfl)
                        have N3 := Lib.hid (show RB + 1 ≤ (q10.alloc (.cells (List.toArray [.int .i64 xk, .int .i64 xl, .int .i64 xf]) 54)).heap.size from by have := HW9.out.1.rb.lt; omega)
                        clear g9
                        go_simp
                        refine hK.out _ _ trivial (fun _ => ?_)
                        clear hK K2
                        try simp only [Act.put, List.setIfInBounds_toArray, List.set_cons_zero, List.set_cons_succ]
                        refine wpAnyH_ready (rs := [7]) (by as_aux_lemma => kernel_rfl) (by simp) ?_
                        refine AllReadyH.cons (o := { dst := some 80, op := Op.call { callee := Callee.builtin Builtin.append, args := #[Operand.tmp 74, Operand.tmp 79], argTypes := #[25, 25] }, type := 25, pos := "answer.go:167", after := #[{ on := 1, ground := Ground.data }, { on := 6, ground := Ground.data }, { on := 4, ground := Ground.chain }], guard := none }) rfl (fun K2 hK => ?_) AllReadyH.nil
                        refine wp_append_any _ (.tmp 74) (.tmp 79) 25 rfl (RB + 1) 54 i0s (.agg #[.int .i64 0, .int .i64 0, .int .i64 0]) 3 24 Tryz.underlying25 HII.out HZ0.out HZ1.out HZ2.out rfl (by decide) _ n (lcs (L.take n)) rfl HW9.out.2 _ _ 1 1 [.int .i64 xk, .int .i64 xl, .int .i64 xf] rfl HRD.out (by intro u hu; simp only [List.mem_cons, List.not_mem_nil, or_false] at hu; rcases hu with rfl | rfl | rfl <;> rfl) N1.out N2.out N3.out (fun v3 w8 hown3 hgrow3 hblk3 => ?_)
                        obtain ⟨A8, c8, hv8⟩ := oshape hown3
                        subst hv8
                        have HPP := Lib.hid (And.intro hown3 (And.intro hgrow3 hblk3))
                        have HB8 : Hid (Rs OB SB XB RB w (DR) [.int .i64 4, .int .i64 0, .int .i64 t, .int .i64 i, .int .i64 c, .bool false, .int .i64 0, .int .i64 0, .int .i64 0, .int .i64 0, .int .i64 0, .int .i64 0, .slice A6 n c6] w8) := Lib.hid (HW9.out.1.grown hgrow3 (fun b e => by have := HW9.out.2.lt b e; omega))
                        clear hown3 hgrow3 hblk3
                        refine hK.out _ _ trivial (fun _ => ?_)
                        clear hK K2
                        try simp only [Act.put, List.setIfInBounds_toArray, List.set_cons_zero, List.set_cons_succ]
                        refine wpAnyH_take (i := 8) (oi := { dst := some 81, op := Op.fieldAddr 27 (Operand.tmp 4) 7, type := 0, pos := "answer.go:167", after := #[{ on := 0, ground := Ground.phase }, { on := 1, ground := Ground.phase }, { on := 2, ground := Ground.phase }, { on := 3, ground := Ground.phase }, { on := 4, ground := Ground.phase }, { on := 5, ground := Ground.phase }, { on := 6, ground := Ground.phase }, { on := 7, ground := Ground.phase }], guard := none }) (v := .pointer (some ⟨RB, 12, none⟩)) rfl (by as_aux_lemma => kernel_rfl) (by as_aux_lemma => kernel_rfl) (by as_aux_lemma => kernel_rfl) (fun _ _ _ h => h) (Or.inl ⟨by rfl, ?_⟩) (by assumption) ?_
                        · intro wq hSw
                          go_simp
                          try with_reducible rfl
                        simp only [Act.put, List.setIfInBounds_toArray, List.set_cons_zero, List.set_cons_succ]
                        refine wpAnyH_ready (rs := [9]) (by as_aux_lemma => kernel_rfl) (by simp) ?_
                        refine AllReadyH.cons (o := { dst := none, op := Op.store 25 (Operand.tmp 81) (Operand.tmp 80), type := 0, pos := "answer.go:167", after := #[{ on := 8, ground := Ground.data }, { on := 7, ground := Ground.data }, { on := 7, ground := Ground.chain }, { on := 0, ground := Ground.phase }, { on := 1, ground := Ground.phase }, { on := 2, ground := Ground.phase }, { on := 3, ground := Ground.phase }, { on := 4, ground := Ground.phase }, { on := 5, ground := Ground.phase }, { on := 6, ground := Ground.phase }, { on := 7, ground := Ground.phase }], guard := none }) rfl (fun K2 hK => ?_) AllReadyH.nil
                        have xb : w8.cell? ⟨RB, 12, none⟩ = some (.slice A6 n c6) := HB8.out.rb.cell 12 _ rfl
                        have xf9 := HB8.out.rb.frz 12
                        go_simp
                        clear xb xf9
                        refine hK.out _ _ trivial (fun _ => ?_)
                        clear hK K2
                        try simp only [Act.put, List.setIfInBounds_toArray, List.set_cons_zero, List.set_cons_succ]
                        refine wpAnyH_done (by as_aux_lemma => kernel_rfl) ?_ _
                        go_wp2_with fail
                        go_roundw
                        case rel =>
                          refine ⟨n + 1, A8, c8, Lib.hid ⟨HLT.out, ?_, ?_⟩⟩
                          · rw [← HDE.out]
                            exact HB8.out.set 12 _
                          · rw [HXX.out]
                            exact rfar HPP.out.1 (fun b h1 h2 => Below.heap_setCell w8 ⟨RB, 12, none⟩ _ b (by show b ≠ RB; omega))
                        case measure =>
                          rw [HTD.out, (HB8.out.set 12 _).rd.todo]
                          have := HDL.out
                          omega
                      · go_simp
                        go_at_call 47
                        refine (number_int XB SB xf HXK.out.2.2 DR q9 HL9.out.1.rd).mono ?_
                        rintro e12 q12 ⟨rfl, hr12, hk12⟩
                        have HL12 : Hid (Rs OB SB XB RB w (DR) [.int .i64 4, .int .i64 0, .int .i64 t, .int .i64 i, .int .i64 c, .bool false, .int .i64 0, .int .i64 0, .int .i64 0, .int .i64 0, .int .i64 0, .int .i64 0, .slice A6 n c6] q12 ∧ q12.ownsRow (RB + 1) 54 3 (.slice A6 n c6) n (lcs (L.take n))) := Lib.hid ⟨HL9.out.1.call hr12 hk12, rkp HL9.out.2 hk12 (by have := HL9.out.1.o; omega)⟩
                        clear hr12 hk12
                        refine hK.out _ _ trivial (fun _ => ?_)
                        clear hK K2
                        try simp only [Act.put, List.setIfInBounds_toArray, List.set_cons_zero, List.set_cons_succ]
                        refine wpAnyH_take (i := 5) (oi := { dst := some 78, op := Op.build 54 #[(0, Operand.tmp 75), (1, Operand.tmp 76), (2, Operand.tmp 77)], type := 54, pos := "answer.go:167", after := #[{ on := 2, ground := Ground.data }, { on := 3, ground := Ground.data }, { on := 4, ground := Ground.data }], guard := none }) (v := .agg #[.int .i64 xk, .int .i64 xl, .int .i64 xf]) rfl (by as_aux_lemma => kernel_rfl) (by as_aux_lemma => kernel_rfl) (by as_aux_lemma => kernel_rfl) (fun _ _ _ h => h) (Or.inl ⟨by rfl, ?_⟩) (by assumption) ?_
                        · intro wq hSw
                          go_simp
                          try with_reducible rfl
                        simp only [Act.put, List.setIfInBounds_toArray, List.set_cons_zero, List.set_cons_succ]
                        refine wpAnyH_ready (rs := [1, 6]) (by as_aux_lemma => kernel_rfl) (by simp) ?_
                        refine AllReadyH.cons (o := { dst := some 74, op := Op.load 25 (Operand.tmp 73), type := 25, pos := "answer.go:167", after := #[{ on := 0, ground := Ground.data }], guard := none }) rfl (fun K2 hK => ?_) (AllReadyH.cons (o := { dst := some 79, op := Op.buildSlice 25 1 #[(0, Operand.tmp 78)], type := 25, pos := "answer.go:167", after := #[{ on := 5, ground := Ground.data }], guard := none }) rfl (fun K2 hK => ?_) AllReadyH.nil)
                        · have xl9 : q12.cell? ⟨RB, 12, none⟩ = some (.slice A6 n c6) := HL12.out.1.rb.cell 12 _ rfl
                          go_simp
                          clear xl9
                          refine hK.out _ _ trivial (fun _ => ?_)
                          clear hK K2
                          try simp only [Act.put, List.setIfInBounds_toArray, List.set_cons_zero, List.set_cons_succ]
                          refine wpAnyH_ready (rs := [6]) (by as_aux_lemma => kernel_rfl) (by simp) ?_
                          refine AllReadyH.cons (o := { dst := some 79, op := Op.buildSlice 25 1 #[(0, Operand.tmp 78)], type := 25, pos := "answer.go:167", after := #[{ on := 5, ground := Ground.data }], guard := none }) rfl (fun K2 hK => ?_) AllReadyH.nil
                          have g9 : Below q12.heap.size q12 (q12.alloc (.cells (List.toArray [.int .i64 xk, .int .i64 xl, .int .i64 xf]) 54)) := by go_grown
                          have HW9 : Hid (Rs OB SB XB RB w (DR) [.int .i64 4, .int .i64 0, .int .i64 t, .int .i64 i, .int .i64 c, .bool false, .int .i64 0, .int .i64 0, .int .i64 0, .int .i64 0, .int .i64 0, .int .i64 0, .slice A6 n c6] (q12.alloc (.cells (List.toArray [.int .i64 xk, .int .i64 xl, .int .i64 xf]) 54)) ∧ (q12.alloc (.cells (List.toArray [.int .i64 xk, .int .i64 xl, .int .i64 xf]) 54)).ownsRow (RB + 1) 54 3 (.slice A6 n c6) n (lcs (L.take n))) := Lib.hid ⟨HL12.out.1.below g9, rkept HL12.out.2 g9⟩
                          have HRD := Lib.hid (reads_newN q12 1 3 [.int .i64 xk, .int .i64 xl, .int .i64 xf] 54 rfl)
                          have N3 := Lib.hid (show RB + 1 ≤ (q12.alloc (.cells (List.toArray [.int .i64 xk, .int .i64 xl, .int .i64 xf]) 54)).heap.size from by have := HW9.out.1.rb.lt; omega)
                          clear g9
                          go_simp
                          refine hK.out _ _ trivial (fun _ => ?_)
                          clear hK K2
                          try simp only [Act.put, List.setIfInBounds_toArray, List.set_cons_zero, List.set_cons_succ]
                          refine wpAnyH_ready (rs := [7]) (by as_aux_lemma => kernel_rfl) (by simp) ?_
                          refine AllReadyH.cons (o := { dst := some 80, op := Op.call { callee := Callee.builtin Builtin.append, args := #[Operand.tmp 74, Operand.tmp 79], argTypes := #[25, 25] }, type := 25, pos := "answer.go:167", after := #[{ on := 1, ground := Ground.data }, { on := 6, ground := Ground.data }, { on := 4, ground := Ground.chain }], guard := none }) rfl (fun K2 hK => ?_) AllReadyH.nil
                          refine wp_append_any _ (.tmp 74) (.tmp 79) 25 rfl (RB + 1) 54 i0s (.agg #[.int .i64 0, .int .i64 0, .int .i64 0]) 3 24 Tryz.underlying25 HII.out HZ0.out HZ1.out HZ2.out rfl (by decide) _ n (lcs (L.take n)) rfl HW9.out.2 _ _ 1 1 [.int .i64 xk, .int .i64 xl, .int .i64 xf] rfl HRD.out (by intro u hu; simp only [List.mem_cons, List.not_mem_nil, or_false] at hu; rcases hu with rfl | rfl | rfl <;> rfl) N1.out N2.out N3.out (fun v3 w8 hown3 hgrow3 hblk3 => ?_)
                          obtain ⟨A8, c8, hv8⟩ := oshape hown3
                          subst hv8
                          have HPP := Lib.hid (And.intro hown3 (And.intro hgrow3 hblk3))
                          have HB8 : Hid (Rs OB SB XB RB w (DR) [.int .i64 4, .int .i64 0, .int .i64 t, .int .i64 i, .int .i64 c, .bool false, .int .i64 0, .int .i64 0, .int .i64 0, .int .i64 0, .int .i64 0, .int .i64 0, .slice A6 n c6] w8) := Lib.hid (HW9.out.1.grown hgrow3 (fun b e => by have := HW9.out.2.lt b e; omega))
                          clear hown3 hgrow3 hblk3
                          refine hK.out _ _ trivial (fun _ => ?_)
                          clear hK K2
                          try simp only [Act.put, List.setIfInBounds_toArray, List.set_cons_zero, List.set_cons_succ]
                          refine wpAnyH_take (i := 8) (oi := { dst := some 81, op := Op.fieldAddr 27 (Operand.tmp 4) 7, type := 0, pos := "answer.go:167", after := #[{ on := 0, ground := Ground.phase }, { on := 1, ground := Ground.phase }, { on := 2, ground := Ground.phase }, { on := 3, ground := Ground.phase }, { on := 4, ground := Ground.phase }, { on := 5, ground := Ground.phase }, { on := 6, ground := Ground.phase }, { on := 7, ground := Ground.phase }], guard := none }) (v := .pointer (some ⟨RB, 12, none⟩)) rfl (by as_aux_lemma => kernel_rfl) (by as_aux_lemma => kernel_rfl) (by as_aux_lemma => kernel_rfl) (fun _ _ _ h => h) (Or.inl ⟨by rfl, ?_⟩) (by assumption) ?_
                          · intro wq hSw
                            go_simp
                            try with_reducible rfl
                          simp only [Act.put, List.setIfInBounds_toArray, List.set_cons_zero, List.set_cons_succ]
                          refine wpAnyH_ready (rs := [9]) (by as_aux_lemma => kernel_rfl) (by simp) ?_
                          refine AllReadyH.cons (o := { dst := none, op := Op.store 25 (Operand.tmp 81) (Operand.tmp 80), type := 0, pos := "answer.go:167", after := #[{ on := 8, ground := Ground.data }, { on := 7, ground := Ground.data }, { on := 7, ground := Ground.chain }, { on := 0, ground := Ground.phase }, { on := 1, ground := Ground.phase }, { on := 2, ground := Ground.phase }, { on := 3, ground := Ground.phase }, { on := 4, ground := Ground.phase }, { on := 5, ground := Ground.phase }, { on := 6, ground := Ground.phase }, { on := 7, ground := Ground.phase }], guard := none }) rfl (fun K2 hK => ?_) AllReadyH.nil
                          have xb : w8.cell? ⟨RB, 12, none⟩ = some (.slice A6 n c6) := HB8.out.rb.cell 12 _ rfl
                          have xf9 := HB8.out.rb.frz 12
                          go_simp
                          clear xb xf9
                          refine hK.out _ _ trivial (fun _ => ?_)
                          clear hK K2
                          try simp only [Act.put, List.setIfInBounds_toArray, List.set_cons_zero, List.set_cons_succ]
                          refine wpAnyH_done (by as_aux_lemma => kernel_rfl) ?_ _
                          go_wp2_with fail
                          go_roundw
                          case rel =>
                            refine ⟨n + 1, A8, c8, Lib.hid ⟨HLT.out, ?_, ?_⟩⟩
                            · rw [← HDE.out]
                              exact HB8.out.set 12 _
                            · rw [HXX.out]
                              exact rfar HPP.out.1 (fun b h1 h2 => Below.heap_setCell w8 ⟨RB, 12, none⟩ _ b (by show b ≠ RB; omega))
                          case measure =>
                            rw [HTD.out, (HB8.out.set 12 _).rd.todo]
                            have := HDL.out
                            omega
                        · have g9 : Below q12.heap.size q12 (q12.alloc (.cells (List.toArray [.int .i64 xk, .int .i64 xl, .int .i64 xf]) 54)) := by go_grown
                          have HW9 : Hid (Rs OB SB XB RB w (DR) [.int .i64 4, .int .i64 0, .int .i64 t, .int .i64 i, .int .i64 c, .bool false, .int .i64 0, .int .i64 0, .int .i64 0, .int .i64 0, .int .i64 0, .int .i64 0, .slice A6 n c6] (q12.alloc (.cells (List.toArray [.int .i64 xk, .int .i64 xl, .int .i64 xf]) 54)) ∧ (q12.alloc (.cells (List.toArray [.int .i64 xk, .int .i64 xl, .int .i64 xf]) 54)).ownsRow (RB + 1) 54 3 (.slice A6 n c6) n (lcs (L.take n))) := Lib.hid ⟨HL12.out.1.below g9, rkept HL12.out.2 g9⟩
                          have HRD := Lib.hid (reads_newN q12 1 3 [.int .i64 xk, .int .i64 xl, .int .i64 xf] 54 rfl)
                          have N3 := Lib.hid (show RB + 1 ≤ (q12.alloc (.cells (List.toArray [.int .i64 xk, .int .i64 xl, .int .i64 xf]) 54)).heap.size from by have := HW9.out.1.rb.lt; omega)
                          clear g9
                          go_simp
                          refine hK.out _ _ trivial (fun _ => ?_)
                          clear hK K2
                          try simp only [Act.put, List.setIfInBounds_toArray, List.set_cons_zero, List.set_cons_succ]
                          refine wpAnyH_ready (rs := [1]) (by as_aux_lemma => kernel_rfl) (by simp) ?_
                          refine AllReadyH.cons (o := { dst := some 74, op := Op.load 25 (Operand.tmp 73), type := 25, pos := "answer.go:167", after := #[{ on := 0, ground := Ground.data }], guard := none }) rfl (fun K2 hK => ?_) AllReadyH.nil
                          have xl9 : (q12.alloc (.cells (List.toArray [.int .i64 xk, .int .i64 xl, .int .i64 xf]) 54)).cell? ⟨RB, 12, none⟩ = some (.slice A6 n c6) := HW9.out.1.rb.cell 12 _ rfl
                          go_simp
                          clear xl9
                          refine hK.out _ _ trivial (fun _ => ?_)
                          clear hK K2
                          try simp only [Act.put, List.setIfInBounds_toArray, List.set_cons_zero, List.set_cons_succ]
                          refine wpAnyH_ready (rs := [7]) (by as_aux_lemma => kernel_rfl) (by simp) ?_
                          refine AllReadyH.cons (o := { dst := some 80, op := Op.call { callee := Callee.builtin Builtin.append, args := #[Operand.tmp 74, Operand.tmp 79], argTypes := #[25, 25] }, type := 25, pos := "answer.go:167", after := #[{ on := 1, ground := Ground.data }, { on := 6, ground := Ground.data }, { on := 4, ground := Ground.chain }], guard := none }) rfl (fun K2 hK => ?_) AllReadyH.nil
                          refine wp_append_any _ (.tmp 74) (.tmp 79) 25 rfl (RB + 1) 54 i0s (.agg #[.int .i64 0, .int .i64 0, .int .i64 0]) 3 24 Tryz.underlying25 HII.out HZ0.out HZ1.out HZ2.out rfl (by decide) _ n (lcs (L.take n)) rfl HW9.out.2 _ _ 1 1 [.int .i64 xk, .int .i64 xl, .int .i64 xf] rfl HRD.out (by intro u hu; simp only [List.mem_cons, List.not_mem_nil, or_false] at hu; rcases hu with rfl | rfl | rfl <;> rfl) N1.out N2.out N3.out (fun v3 w8 hown3 hgrow3 hblk3 => ?_)
                          obtain ⟨A8, c8, hv8⟩ := oshape hown3
                          subst hv8
                          have HPP := Lib.hid (And.intro hown3 (And.intro hgrow3 hblk3))
                          have HB8 : Hid (Rs OB SB XB RB w (DR) [.int .i64 4, .int .i64 0, .int .i64 t, .int .i64 i, .int .i64 c, .bool false, .int .i64 0, .int .i64 0, .int .i64 0, .int .i64 0, .int .i64 0, .int .i64 0, .slice A6 n c6] w8) := Lib.hid (HW9.out.1.grown hgrow3 (fun b e => by have := HW9.out.2.lt b e; omega))
                          clear hown3 hgrow3 hblk3
                          refine hK.out _ _ trivial (fun _ => ?_)
                          clear hK K2
                          try simp only [Act.put, List.setIfInBounds_toArray, List.set_cons_zero, List.set_cons_succ]
                          refine wpAnyH_take (i := 8) (oi := { dst := some 81, op := Op.fieldAddr 27 (Operand.tmp 4) 7, type := 0, pos := "answer.go:167", after := #[{ on := 0, ground := Ground.phase }, { on := 1, ground := Ground.phase }, { on := 2, ground := Ground.phase }, { on := 3, ground := Ground.phase }, { on := 4, ground := Ground.phase }, { on := 5, ground := Ground.phase }, { on := 6, ground := Ground.phase }, { on := 7, ground := Ground.phase }], guard := none }) (v := .pointer (some ⟨RB, 12, none⟩)) rfl (by as_aux_lemma => kernel_rfl) (by as_aux_lemma => kernel_rfl) (by as_aux_lemma => kernel_rfl) (fun _ _ _ h => h) (Or.inl ⟨by rfl, ?_⟩) (by assumption) ?_
                          · intro wq hSw
                            go_simp
                            try with_reducible rfl
                          simp only [Act.put, List.setIfInBounds_toArray, List.set_cons_zero, List.set_cons_succ]
                          refine wpAnyH_ready (rs := [9]) (by as_aux_lemma => kernel_rfl) (by simp) ?_
                          refine AllReadyH.cons (o := { dst := none, op := Op.store 25 (Operand.tmp 81) (Operand.tmp 80), type := 0, pos := "answer.go:167", after := #[{ on := 8, ground := Ground.data }, { on := 7, ground := Ground.data }, { on := 7, ground := Ground.chain }, { on := 0, ground := Ground.phase }, { on := 1, ground := Ground.phase }, { on := 2, ground := Ground.phase }, { on := 3, ground := Ground.phase }, { on := 4, ground := Ground.phase }, { on := 5, ground := Ground.phase }, { on := 6, ground := Ground.phase }, { on := 7, ground := Ground.phase }], guard := none }) rfl (fun K2 hK => ?_) AllReadyH.nil
                          have xb : w8.cell? ⟨RB, 12, none⟩ = some (.slice A6 n c6) := HB8.out.rb.cell 12 _ rfl
                          have xf9 := HB8.out.rb.frz 12
                          go_simp
                          clear xb xf9
                          refine hK.out _ _ trivial (fun _ => ?_)
                          clear hK K2
                          try simp only [Act.put, List.setIfInBounds_toArray, List.set_cons_zero, List.set_cons_succ]
                          refine wpAnyH_done (by as_aux_lemma => kernel_rfl) ?_ _
                          go_wp2_with fail
                          go_roundw
                          case rel =>
                            refine ⟨n + 1, A8, c8, Lib.hid ⟨HLT.out, ?_, ?_⟩⟩
                            · rw [← HDE.out]
                              exact HB8.out.set 12 _
                            · rw [HXX.out]
                              exact rfar HPP.out.1 (fun b h1 h2 => Below.heap_setCell w8 ⟨RB, 12, none⟩ _ b (by show b ≠ RB; omega))
                          case measure =>
                            rw [HTD.out, (HB8.out.set 12 _).rd.todo]
                            have := HDL.out
                            omega
                · obtain rfl : n = L.length := by have := HM.out.1; omega
                  have hT : (L.drop L.length).flatMap lw = [] := by rw [List.drop_length]; rfl
                  have h0 : Rs OB SB XB RB w ([]) [.int .i64 4, .int .i64 0, .int .i64 t, .int .i64 i, .int .i64 c, .bool false, .int .i64 0, .int .i64 0, .int .i64 0, .int .i64 0, .int .i64 0, .int .i64 0, .slice A6 L.length c6] wr := by have := HM.out.2.1; rwa [hT] at this
                  obtain ⟨a0, c0, y24⟩ := h0.rd.none
                  have HZZ := Lib.hid h0
                  have HOW : Hid (wr.ownsRow (RB + 1) 54 3 (.slice A6 L.length c6) L.length (lcs L)) := Lib.hid (by have := HM.out.2.2; rwa [List.take_length] at this)
                  clear h0 hT hlt
                  go_wp2_with fail
                  go_meet
                  case rel => exact Lib.hid ⟨A6, c6, [], HZZ.out, HOW.out⟩
      · as_aux_lemma =>
          obtain ⟨hT, rfl, ⟨rfl, rfl, rfl, rfl, rfl, rfl⟩, rfl⟩ := rt_err HRT.out hcd
          have HC : Hid (Rs OB SB XB RB w ([wErr, dcl cd.toNat]) [.int .i64 k, .int .i64 0, .int .i64 t, .int .i64 i, .int .i64 c, .bool false, .int .i64 0, .int .i64 0, .int .i64 0, .int .i64 0, .int .i64 0, .int .i64 0, .slice none 0 0] wc) := Lib.hid (by
            have h1 := HCT.out
            rw [HTL.out, hT] at h1
            exact h1)
          clear hT
          have hh : Rd XB SB (wErr :: [dcl cd.toNat]) wc := HC.out.rd
          obtain ⟨kk, cc, y24, y25, hcc⟩ := hh.head
          have HCC9 := Lib.hid hcc
          clear hh hcc
          have hz : ((Bs wErr).toList == [101, 114, 114, 111, 114]) = true := by rw [eqE]; exact beq_self_eq_true _
          clear hcd
          go_wp2_with fail
          clear y24 y25 hz
          refine (word_is XB SB wErr [dcl cd.toNat] wc HC.out.rd).mono ?_
          rintro e122 w122 ⟨rfl, hr122, hk122⟩
          have HC122 : Hid (Rs OB SB XB RB w ([dcl cd.toNat]) [.int .i64 k, .int .i64 0, .int .i64 t, .int .i64 i, .int .i64 c, .bool false, .int .i64 0, .int .i64 0, .int .i64 0, .int .i64 0, .int .i64 0, .int .i64 0, .slice none 0 0] w122) := Lib.hid (HC.out.call hr122 hk122)
          clear hr122 hk122
          go_wp2_with fail
          refine (number_int XB SB cd ⟨HRT.out.cd, HCD.out⟩ [] w122 HC122.out.rd).mono ?_
          rintro e123 w123 ⟨rfl, hr123, hk123⟩
          have HC123 : Hid (Rs OB SB XB RB w ([]) [.int .i64 k, .int .i64 0, .int .i64 t, .int .i64 i, .int .i64 c, .bool false, .int .i64 0, .int .i64 0, .int .i64 0, .int .i64 0, .int .i64 0, .int .i64 0, .slice none 0 0] w123) := Lib.hid (HC122.out.call hr123 hk123)
          clear hr123 hk123
          have yb : w123.cell? ⟨RB, 1, none⟩ = some (.int .i64 0) := HC123.out.rb.cell 1 _ rfl
          have yf : w123.frozen? ⟨RB, 1, none⟩ = false := HC123.out.rb.frz 1
          go_wp2_with fail
          have hs125 : Rs OB SB XB RB w ([]) [.int .i64 k, .int .i64 cd, .int .i64 t, .int .i64 i, .int .i64 c, .bool false, .int .i64 0, .int .i64 0, .int .i64 0, .int .i64 0, .int .i64 0, .int .i64 0, .slice none 0 0] (w123.setCell ⟨RB, 1, none⟩ (.int .i64 cd)) := HC123.out.set 1 (.int .i64 cd)
          clear yb yf
          obtain ⟨v125, hv125⟩ : ∃ v, v = w123.setCell ⟨RB, 1, none⟩ (.int .i64 cd) := ⟨_, rfl⟩
          rw [← hv125] at hs125 ⊢
          have HS125 := Lib.hid hs125
          clear hs125 hv125
          go_meet
          case rel => exact Lib.hid ⟨none, 0, _, HS125.out, World.ownsRow_nil _ _ _ _⟩
    case rest =>
      have HC := Lib.hid hcut.out
      clear hcut
      obtain ⟨A6, c6, ws6, hS6, hO6⟩ := HC.out
      have HF := Lib.hid (And.intro hS6 hO6)
      clear hS6 hO6
      have y0 := HF.out.1.rb.cell 0 _ rfl
      have y1 := HF.out.1.rb.cell 1 _ rfl
      have y2 := HF.out.1.rb.cell 2 _ rfl
      have y3 := HF.out.1.rb.cell 3 _ rfl
      have y4 := HF.out.1.rb.cell 4 _ rfl
      have y5 := HF.out.1.rb.cell 5 _ rfl
      have y6 := HF.out.1.rb.cell 6 _ rfl
      have y7 := HF.out.1.rb.cell 7 _ rfl
      have y8 := HF.out.1.rb.cell 8 _ rfl
      have y9 := HF.out.1.rb.cell 9 _ rfl
      have y10 := HF.out.1.rb.cell 10 _ rfl
      have y11 := HF.out.1.rb.cell 11 _ rfl
      have y12 := HF.out.1.rb.cell 12 _ rfl
      go_wp2_with (refine wpList_store_bl rfl 27 (.tmp 2) (.tmp 82) rfl OB [.int .i64 0, .int .i64 0, .int .i64 0, .int .i64 0, .int .i64 0, .bool false, .int .i64 0, .int .i64 0, .int .i64 0, .int .i64 0, .int .i64 0, .int .i64 0, .slice none 0 0] [.int .i64 k, .int .i64 cd, .int .i64 t, .int .i64 i, .int .i64 c, .bool ask, .int .i64 r0, .int .i64 r1, .int .i64 r2, .int .i64 r3, .int .i64 r4, .int .i64 r5, .slice A6 L.length c6] rfl rfl HF.out.1.ob rfl (by kernel_rfl) rfl (fun w1 hb1 hk1 hs1 hbel1 => ?_); have HH := Lib.hid (And.intro hb1 (And.intro hk1 (And.intro hs1 hbel1))); clear hb1 hk1 hs1 hbel1)
      refine bodyPost_ret (results_bl (ty := 27) rfl _ _ OB [.int .i64 k, .int .i64 cd, .int .i64 t, .int .i64 i, .int .i64 c, .bool ask, .int .i64 r0, .int .i64 r1, .int .i64 r2, .int .i64 r3, .int .i64 r4, .int .i64 r5, .slice A6 L.length c6] _ rfl HH.out.1 Tryz.underlying27 rfl (by kernel_rfl)) rfl ?_
      refine ⟨A6, c6, rfl, own_lk (rfar HF.out.2 (fun b h1 h2 => HH.out.2.1 b (by have := HF.out.1.o; omega) h2)) rfl, (fun ad h1 h2 => by have h3 := own_far HF.out.2 ad h1 h2; have := HF.out.1.o; omega), HH.out.2.2.2 _ _ HF.out.1.o.1 HF.out.1.bel⟩

end Go.Proofs.YtinciphhoieonaaGreatDoor

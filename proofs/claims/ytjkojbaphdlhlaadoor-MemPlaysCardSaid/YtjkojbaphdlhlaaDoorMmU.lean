/-
  Twins of shared words, and what a list of operations leaves.
-/
import Derived.Test.YtjkojbaphdlhlaaDoorRows
import Derived.WalkKit
import Derived.ProofKit
import Derived.OpenShut
import Derived.ShutString
import Derived.Below
import Derived.Outline
import Derived.WalkLawsBesides
import Derived.WalkSpells
import Derived.Handy
import Derived.Deep.QuietTactic
import Derived.BigQuiet
import Derived.RegionTactic
import Derived.ChangeAlike
import Derived.Lib.Hide
import Derived.Laws.Rows
import Derived.Laws.Tables
import Derived.Laws.CopyOwn
import Derived.Laws.MakeOwn
import Derived.Laws.Entries
import Derived.Laws.OwnMore
import Derived.Deep.WholeRow
import Derived.Deep.LoopGhost
import Derived.Deep.AppendLies
import Derived.Deep.Draws
import Derived.Maps.AppendAt
import Derived.OwnWalk
import Derived.Deep.RegionHeld3
import Derived.Deep.Cut
import Derived.Deep.CutRange
import Derived.Deep.DeepCutAuto
import Derived.Deep.CutBlock
import Derived.Lib.SliceRun
import Derived.IntWalk
import Derived.Test.YtjkojbaphdlhlaaDoorKit
import Derived.Test.YtjkojbaphdlhlaaDoorApp
import Derived.Stop.Asserts
import Derived.RowKitTokens
import Derived.LaidEql
import Derived.Test.YtjkojbaphdlhlaaDoorMmT
import Derived.Test.YtjkojbaphdlhlaaDoorQuiet
namespace Go.Proofs.YtjkojbaphdlhlaaDoor.Mm
set_option linter.unusedVariables false
set_option linter.unusedSimpArgs false
open Go.ChangeShapes Go.WideShapes Go.ChangeAt Go.RowKit
/-- Words, as one thing. -/
structure MS where
  ws : Nat → Int
  st : Int
  k : Int
  a : Int
  p : Int
  q : Int
  d : Bool
def MAt (M B n c : Nat) (s : MS) (w : World) : Prop := MemAt M B n c (some ⟨B, 0, none⟩) s.ws s.st s.k s.a s.p s.q s.d w
theorem keep7 {B : Nat} {v0 v1 v2 v3 v4 v5 v6 : Value} {wx wy : World} (h : wx.cell? ⟨B, 0, none⟩ = some v0 ∧ wx.cell? ⟨B, 1, none⟩ = some v1 ∧ wx.cell? ⟨B, 2, none⟩ = some v2 ∧ wx.cell? ⟨B, 3, none⟩ = some v3 ∧ wx.cell? ⟨B, 4, none⟩ = some v4 ∧ wx.cell? ⟨B, 5, none⟩ = some v5 ∧ wx.cell? ⟨B, 6, none⟩ = some v6) (hs : B < wx.heap.size) (hb : Below wx.heap.size wx wy) : wy.cell? ⟨B, 0, none⟩ = some v0 ∧ wy.cell? ⟨B, 1, none⟩ = some v1 ∧ wy.cell? ⟨B, 2, none⟩ = some v2 ∧ wy.cell? ⟨B, 3, none⟩ = some v3 ∧ wy.cell? ⟨B, 4, none⟩ = some v4 ∧ wy.cell? ⟨B, 5, none⟩ = some v5 ∧ wy.cell? ⟨B, 6, none⟩ = some v6 := by
  have e : ∀ o, wy.cell? ⟨B, o, none⟩ = wx.cell? ⟨B, o, none⟩ := fun o => hb.cell (p := ⟨B, o, none⟩) hs
  obtain ⟨c0, c1, c2, c3, c4, c5, c6⟩ := h
  exact ⟨(e 0).trans c0, (e 1).trans c1, (e 2).trans c2, (e 3).trans c3, (e 4).trans c4, (e 5).trans c5, (e 6).trans c6⟩
set_option maxRecDepth 100000 in
set_option maxHeartbeats 4000000 in
theorem twin_is {M B n c : Nat} {s : MS} {w : World} (h : MAt M B n c s w) (hn : n ≤ 8192) : Calls Tryd.prog 26 #[.pointer (some ⟨M, 0, none⟩)] w fun e w' => ∃ M' B' c' : Nat, e = .returned (.pointer (some ⟨M', 0, none⟩)) ∧ MAt M' B' n c' s w' ∧ w.heap.size ≤ M' ∧ w.heap.size ≤ B' ∧ Below w.heap.size w w' := by
  obtain ⟨ws, st, k, a, p, q, d⟩ := s
  have H := Lib.hid (show MemAt M B n c (some ⟨B, 0, none⟩) ws st k a p q d w from h)
  have HC := Lib.hid (clone_is (c := c) (w := w.drew) (show WordsAt B n (some ⟨B, 0, none⟩) ws w.drew from ⟨rfl, H.out.bl, fun i hi => (H.out.wd i hi).2.2⟩) hn)
  have hS0 : w.drew.cell? ⟨M, 0, none⟩ = some (.slice (some ⟨B, 0, none⟩) n c) ∧ w.drew.cell? ⟨M, 1, none⟩ = some (.int .i64 st) ∧ w.drew.cell? ⟨M, 2, none⟩ = some (.int .i64 k) ∧ w.drew.cell? ⟨M, 3, none⟩ = some (.int .i64 a) ∧ w.drew.cell? ⟨M, 4, none⟩ = some (.int .u64 p) ∧ w.drew.cell? ⟨M, 5, none⟩ = some (.int .u64 q) ∧ w.drew.cell? ⟨M, 6, none⟩ = some (.bool d) := ⟨H.out.c0, H.out.c1, H.out.c2, H.out.c3, H.out.c4, H.out.c5, H.out.c6⟩
  clear h
  go_enter Tryd.func26, Tryd.ntmps26
  go_wp2_with fail
  go_region_held3 (fun w' => w'.cell? ⟨M, 0, none⟩ = some (.slice (some ⟨B, 0, none⟩) n c) ∧ w'.cell? ⟨M, 1, none⟩ = some (.int .i64 st) ∧ w'.cell? ⟨M, 2, none⟩ = some (.int .i64 k) ∧ w'.cell? ⟨M, 3, none⟩ = some (.int .i64 a) ∧ w'.cell? ⟨M, 4, none⟩ = some (.int .u64 p) ∧ w'.cell? ⟨M, 5, none⟩ = some (.int .u64 q) ∧ w'.cell? ⟨M, 6, none⟩ = some (.bool d)) (first | with_reducible exact hS0 | with_reducible exact hS1 | with_reducible exact hS2 | fail)
    (first
      | ((with_reducible refine HC.out.mono ?_); rintro e wy ⟨B', c', rfl, hW, hl, hby⟩; have HW := Lib.hid (show WordsAt B' n (some ⟨B', 0, none⟩) ws wy from hW); have hS1 := keep7 hS0 (show M < w.drew.heap.size from H.out.ml) hby; have HB := Lib.hid (show Below w.heap.size w wy from Below.step (show Below w.heap.size w w.drew from Below.drew (Below.refl _ _)) hby); have HLB := Lib.hid (show w.heap.size ≤ B' from hl); have hly : w.heap.size ≤ wy.heap.size := HB.out.size; have hS2 := keep7 (wy := wy.alloc (Obj.cells #[.slice (some ⟨B', 0, none⟩) n c', .int .i64 st, .int .i64 k, .int .i64 a, .int .u64 p, .int .u64 q, .bool d] 96)) hS1 (Nat.lt_of_lt_of_le H.out.ml hly) (by go_grown); clear hW hl hby)
      | fail)
  have g2 := heap_alloc_new wy (Obj.cells #[.slice (some ⟨B', 0, none⟩) n c', .int .i64 st, .int .i64 k, .int .i64 a, .int .u64 p, .int .u64 q, .bool d] 96)
  have G2 := Lib.hid g2
  have hbA : Below wy.heap.size wy (wy.alloc (Obj.cells #[.slice (some ⟨B', 0, none⟩) n c', .int .i64 st, .int .i64 k, .int .i64 a, .int .u64 p, .int .u64 q, .bool d] 96)) := by go_grown
  have HBA := Lib.hid hbA
  clear g2 hbA
  go_wp2
  go_ret
  have HWA := HW.out.below HBA.out
  refine ⟨wy.heap.size, B', c', rfl, ⟨?_, ?_, ?_, ?_, ?_, ?_, ?_, fun o _ => blk_frozen G2.out o, blk_lt G2.out, fun i hi => ⟨rfl, HWA.bl, (HWA.wd i hi).1, (HWA.wd i hi).2.1, (HWA.wd i hi).2.2⟩, fun e => absurd (e ▸ HW.out.bl) (Nat.lt_irrefl _), rfl, HWA.bl⟩, hly, HLB.out, Below.step HB.out HBA.out⟩
  all_goals (rw [cell_of_row _ _ _ _ _ _ G2.out]; rfl)
/-- An operation. -/
structure OpV where
  k : Int
  a : Int
  o : Int
  x : Int
def eff (n : Nat) (s : MS) (o : OpV) : MS :=
  if 0 ≤ o.a ∧ o.a < n then
    if o.k = 1 then ⟨upd s.ws o.a.toNat (s.ws o.a.toNat), s.st + 1, 1, o.a.toNat, s.ws o.a.toNat, s.ws o.a.toNat, true⟩
    else if o.k = 2 then ⟨upd s.ws o.a.toNat o.x, s.st + 1, 2, o.a.toNat, s.ws o.a.toNat, o.x, true⟩
    else if o.k = 3 then
      if s.ws o.a.toNat = o.o then ⟨upd s.ws o.a.toNat o.x, s.st + 1, 3, o.a.toNat, s.ws o.a.toNat, o.x, true⟩
      else ⟨upd s.ws o.a.toNat (s.ws o.a.toNat), s.st + 1, 3, o.a.toNat, s.ws o.a.toNat, s.ws o.a.toNat, false⟩
    else s
  else s
def run (n : Nat) (g : Nat → OpV) (s : MS) : Nat → MS
  | 0 => s
  | k + 1 => eff n (run n g s k) (g k)
theorem eff_st (n : Nat) (s : MS) (o : OpV) : s.st ≤ (eff n s o).st ∧ (eff n s o).st ≤ s.st + 1 := by
  unfold eff
  repeat' split
  all_goals (first | omega | (simp only; omega))
theorem run_st (n : Nat) (g : Nat → OpV) (s : MS) (k : Nat) : s.st ≤ (run n g s k).st ∧ (run n g s k).st ≤ s.st + k := by
  induction k with
  | zero => exact ⟨Int.le_refl _, by simp [run]⟩
  | succ k ih =>
    have := eff_st n (run n g s k) (g k)
    show s.st ≤ (eff n (run n g s k) (g k)).st ∧ (eff n (run n g s k) (g k)).st ≤ s.st + ((k + 1 : Nat) : Int)
    omega
theorem eff_out (n : Nat) (s : MS) (o : OpV) (h : o.a < 0 ∨ (n : Int) ≤ o.a) : eff n s o = s := by unfold eff; rw [if_neg (by omega)]
theorem eff_none (n : Nat) (s : MS) (o : OpV) (h1 : o.k ≠ 1) (h2 : o.k ≠ 2) (h3 : o.k ≠ 3) : eff n s o = s := by unfold eff; rw [if_neg h1, if_neg h2, if_neg h3]; split <;> rfl
theorem eff_load (n i : Nat) (s : MS) (o x : Int) (hi : i < n) : eff n s ⟨1, i, o, x⟩ = ⟨upd s.ws i (s.ws i), s.st + 1, 1, i, s.ws i, s.ws i, true⟩ := by
  unfold eff; rw [if_pos (show 0 ≤ (i : Int) ∧ (i : Int) < (n : Int) from by omega), if_pos rfl]; rfl
theorem eff_store (n i : Nat) (s : MS) (o x : Int) (hi : i < n) : eff n s ⟨2, i, o, x⟩ = ⟨upd s.ws i x, s.st + 1, 2, i, s.ws i, x, true⟩ := by
  unfold eff; rw [if_pos (show 0 ≤ (i : Int) ∧ (i : Int) < (n : Int) from by omega), if_neg (show ¬ ((2 : Int) = 1) from by decide), if_pos rfl]; rfl
theorem eff_yes (n i : Nat) (s : MS) (o x : Int) (hi : i < n) (h : s.ws i = o) : eff n s ⟨3, i, o, x⟩ = ⟨upd s.ws i x, s.st + 1, 3, i, s.ws i, x, true⟩ := by
  unfold eff; rw [if_pos (show 0 ≤ (i : Int) ∧ (i : Int) < (n : Int) from by omega), if_neg (show ¬ ((3 : Int) = 1) from by decide), if_neg (show ¬ ((3 : Int) = 2) from by decide), if_pos (show (3 : Int) = 3 from rfl), if_pos (show s.ws ((i : Int).toNat) = o from h)]; rfl
theorem eff_no (n i : Nat) (s : MS) (o x : Int) (hi : i < n) (h : s.ws i ≠ o) : eff n s ⟨3, i, o, x⟩ = ⟨upd s.ws i (s.ws i), s.st + 1, 3, i, s.ws i, s.ws i, false⟩ := by
  unfold eff; rw [if_pos (show 0 ≤ (i : Int) ∧ (i : Int) < (n : Int) from by omega), if_neg (show ¬ ((3 : Int) = 1) from by decide), if_neg (show ¬ ((3 : Int) = 2) from by decide), if_pos (show (3 : Int) = 3 from rfl), if_neg (show ¬ s.ws ((i : Int).toNat) = o from h)]; rfl
theorem Oth.cell {M B : Nat} {w w' : World} (h : Oth M B w w') {p : Addr} (h0 : p.block < w.heap.size) (h1 : p.block ≠ M) (h2 : p.block ≠ B) : w'.cell? p = w.cell? p := World.cell?_of_block (w := w) (h.2.2.2.2 _ h0 h1 h2)
theorem Oth.frozen {M B : Nat} {w w' : World} (h : Oth M B w w') {p : Addr} (h0 : p.block < w.heap.size) (h1 : p.block ≠ M) (h2 : p.block ≠ B) : w'.frozen? p = w.frozen? p := World.frozen?_of_block (w := w) (h.2.2.2.2 _ h0 h1 h2)
theorem MAt.oth {M B n c M' B' : Nat} {s : MS} {w w' : World} (h : MAt M B n c s w) (o : Oth M' B' w w') (h1 : M ≠ M') (h2 : M ≠ B') (h3 : B ≠ M') (h4 : B ≠ B') : MAt M B n c s w' := by
  have hc : ∀ i, w'.cell? ⟨M, i, none⟩ = w.cell? ⟨M, i, none⟩ := fun i => o.cell (p := ⟨M, i, none⟩) h.ml h1 h2
  have hf : ∀ i, w'.frozen? ⟨M, i, none⟩ = w.frozen? ⟨M, i, none⟩ := fun i => o.frozen (p := ⟨M, i, none⟩) h.ml h1 h2
  have bc : ∀ i, w'.cell? ⟨B, i, none⟩ = w.cell? ⟨B, i, none⟩ := fun i => o.cell (p := ⟨B, i, none⟩) h.bl h3 h4
  have bf : ∀ i, w'.frozen? ⟨B, i, none⟩ = w.frozen? ⟨B, i, none⟩ := fun i => o.frozen (p := ⟨B, i, none⟩) h.bl h3 h4
  have hz := o.2.2.2.1
  exact ⟨(hc 0).trans h.c0, (hc 1).trans h.c1, (hc 2).trans h.c2, (hc 3).trans h.c3, (hc 4).trans h.c4, (hc 5).trans h.c5, (hc 6).trans h.c6, fun i hi => (hf i).trans (h.fz i hi), Nat.lt_of_lt_of_le h.ml hz, fun i hi => ⟨rfl, Nat.lt_of_lt_of_le h.bl hz, (bc i).trans (h.wd i hi).2.2.1, (bf i).trans (h.wd i hi).2.2.2.1, (h.wd i hi).2.2.2.2⟩, h.ne, rfl, Nat.lt_of_lt_of_le h.bl hz⟩
theorem MAt.below {M B n c : Nat} {s : MS} {w w' : World} (h : MAt M B n c s w) (hb : Below w.heap.size w w') : MAt M B n c s w' := MemAt.below h hb
theorem WordsAt.oth {B n M' B' : Nat} {A : Option Addr} {ws : Nat → Int} {w w' : World} (h : WordsAt B n A ws w) (o : Oth M' B' w w') (h3 : B ≠ M') (h4 : B ≠ B') : WordsAt B n A ws w' := by
  have bc : ∀ i, w'.cell? ⟨B, i, none⟩ = w.cell? ⟨B, i, none⟩ := fun i => o.cell (p := ⟨B, i, none⟩) h.bl h3 h4
  have bf : ∀ i, w'.frozen? ⟨B, i, none⟩ = w.frozen? ⟨B, i, none⟩ := fun i => o.frozen (p := ⟨B, i, none⟩) h.bl h3 h4
  exact ⟨h.ha, Nat.lt_of_lt_of_le h.bl o.2.2.2.1, fun i hi => ⟨(bc i).trans (h.wd i hi).1, (bf i).trans (h.wd i hi).2.1, (h.wd i hi).2.2⟩⟩
theorem add_pos (a : Addr) (i : Nat) (hi : i ≠ 0) (h : a.spot = none) : a.add i = ⟨a.block, a.off + i, none⟩ := by
  unfold Addr.add
  rw [if_neg hi]
/-- Operations that are there. -/
def OpsAt (A : Option Addr) (len : Nat) (g : Nat → OpV) (w : World) : Prop := 0 < len → ∃ ad, A = some ad ∧ ad.block < w.heap.size ∧ ∀ i, i < len →
  w.cell? (ad.add (i * 4)) = some (.int .i64 (g i).k) ∧ w.cell? (ad.add (i * 4 + 1)) = some (.int .i64 (g i).a) ∧ w.cell? (ad.add (i * 4 + 2)) = some (.int .u64 (g i).o) ∧ w.cell? (ad.add (i * 4 + 3)) = some (.int .u64 (g i).x) ∧ 0 ≤ (g i).x ∧ (g i).x ≤ 18446744073709551615
theorem new_mat (n : Nat) (hn : n ≤ 8192) (w : World) : Calls Tryd.prog 19 #[.int .i64 (n : Int)] w fun e w' => ∃ M B : Nat, e = .returned (.tuple #[.pointer (some ⟨M, 0, none⟩), .nilIface]) ∧ MAt M B n n ⟨fun _ => 0, 0, 0, 0, 0, 0, false⟩ w' ∧ w.heap.size ≤ M ∧ w.heap.size ≤ B ∧ Below w.heap.size w w' := by
  refine (new_is n hn w).mono ?_
  rintro e w1 ⟨rfl, hM, hb⟩
  exact ⟨w.heap.size + 1, w.heap.size, rfl, hM, by omega, Nat.le_refl _, hb⟩
theorem OpsAt.below {A : Option Addr} {len : Nat} {g : Nat → OpV} {w w' : World} (h : OpsAt A len g w) (hb : Below w.heap.size w w') : OpsAt A len g w' := fun h0 => by
  obtain ⟨ad, e, h1, h2⟩ := h h0
  have hc : ∀ i, w'.cell? (ad.add i) = w.cell? (ad.add i) := fun i => hb.cell (p := ad.add i) (by rw [block_of_add]; exact h1)
  exact ⟨ad, e, Nat.lt_of_lt_of_le h1 hb.size, fun i hi => ⟨(hc _).trans (h2 i hi).1, (hc _).trans (h2 i hi).2.1, (hc _).trans (h2 i hi).2.2.1, (hc _).trans (h2 i hi).2.2.2.1, (h2 i hi).2.2.2.2⟩⟩
/-- Where the operations lie: not in the words' blocks. -/
theorem awake03 (w : World) : Calls Tryd.prog 20 #[] w fun e w' => e = .returned (.bool true) ∧ Below w.heap.size w w' := by
  have HNEW := Lib.hid (new_is 1 (by decide) w)
  have HNW : Hid (Calls Tryd.prog 19 #[.int .i64 1] w fun e w' => e = .returned (.tuple #[.pointer (some ⟨w.heap.size + 1, 0, none⟩), .nilIface]) ∧ MemAt (w.heap.size + 1) w.heap.size 1 1 (some ⟨w.heap.size, 0, none⟩) (fun _ => 0) 0 0 0 0 0 false w' ∧ Below w.heap.size w w') := HNEW.out
  clear HNEW
  go_enter Tryd.func20, Tryd.ntmps20
  go_wp2_with fail
  refine HNW.out.mono ?_
  rintro e w1 ⟨rfl, hM1, hB1⟩
  have HS1 : Hid (Calls Tryd.prog 25 #[.pointer (some ⟨w.heap.size + 1, 0, none⟩), .int .i64 0, .int .u64 0, .int .u64 7] w1 (Stepped (w.heap.size + 1) w.heap.size 1 1 (some ⟨w.heap.size, 0, none⟩) (upd (fun _ => 0) 0 7) (0 + 1) 3 (0 : Nat) 0 7 true (.tuple #[.bool true, .nilIface]) w1)) := swap_yes hM1 0 (by decide) 0 7 (by decide) (by decide) rfl
  clear hM1
  go_wp2_with fail
  refine HS1.out.mono ?_
  rintro e w2 ⟨rfl, hM2, hz2, hK2⟩
  have hB2 := hK2.1 w.heap.size w (by omega) (Nat.le_refl _) hB1
  have HS2 : Hid (Calls Tryd.prog 25 #[.pointer (some ⟨w.heap.size + 1, 0, none⟩), .int .i64 0, .int .u64 0, .int .u64 8] w2 (Stepped (w.heap.size + 1) w.heap.size 1 1 (some ⟨w.heap.size, 0, none⟩) (upd (upd (fun _ => 0) 0 7) 0 7) (0 + 1 + 1) 3 (0 : Nat) 7 7 false (.tuple #[.bool false, .nilIface]) w2)) := swap_no hM2 0 (by decide) 0 8 (by decide) (by decide)
  clear hM2 hK2 hz2
  go_wp2_with fail
  refine HS2.out.mono ?_
  rintro e w3 ⟨rfl, hM3, hz3, hK3⟩
  have hB3 := hK3.1 w.heap.size w (by omega) (Nat.le_refl _) hB2
  have HWD := Lib.hid (words_is hM3 (by decide))
  clear hM3 hK3 hz3
  go_wp2_with fail
  refine HWD.out.mono ?_
  rintro e w4 ⟨B', c', rfl, hW4, hl4, hb4⟩
  have hB4 := Below.step hB3 hb4
  have h7 : w4.cell? ⟨B', 0, none⟩ = some (.int .u64 7) := (hW4.wd 0 (by decide)).1
  clear hW4 hl4 hb4
  go_wp2
  go_ret
  exact ⟨rfl, hB4⟩
end Go.Proofs.YtjkojbaphdlhlaaDoor.Mm

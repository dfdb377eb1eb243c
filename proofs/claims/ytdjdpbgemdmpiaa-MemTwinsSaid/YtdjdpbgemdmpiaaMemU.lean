/-
  Twins of shared words, and what a list of operations leaves.
-/
import Derived.Test.YtdjdpbgemdmpiaaRows
import Derived.WalkKit
import Derived.ProofKit
import Derived.OpenShut
import Derived.ShutString
import Derived.Below
import Derived.Outline
import Derived.WalkLawsBesides
import Derived.WalkSpells
import Derived.Handy
import Derived.Deep.QuietTactic
import Derived.BigQuiet
import Derived.RegionTactic
import Derived.ChangeAlike
import Derived.Lib.Hide
import Derived.Laws.Rows
import Derived.Laws.Tables
import Derived.Laws.CopyOwn
import Derived.Laws.MakeOwn
import Derived.Laws.Entries
import Derived.Laws.OwnMore
import Derived.Deep.WholeRow
import Derived.Deep.LoopGhost
import Derived.Deep.AppendLies
import Derived.Deep.Draws
import Derived.Maps.AppendAt
import Derived.OwnWalk
import Derived.Deep.RegionHeld3
import Derived.Deep.Cut
import Derived.Deep.CutRange
import Derived.Deep.DeepCutAuto
import Derived.Deep.CutBlock
import Derived.Lib.SliceRun
import Derived.IntWalk
import Derived.Test.YtdjdpbgemdmpiaaKit
import Derived.Test.YtdjdpbgemdmpiaaApp
import Derived.Stop.Asserts
import Derived.RowKitTokens
import Derived.LaidEql
import Derived.Test.YtdjdpbgemdmpiaaMemT
import Derived.Test.YtdjdpbgemdmpiaaQuiet
namespace Go.Proofs.Ytdjdpbgemdmpiaa
open Go.ChangeShapes Go.WideShapes Go.ChangeAt Go.RowKit
/-- Words, as one thing. -/
structure MS where
  ws : Nat → Int
  st : Int
  k : Int
  a : Int
  p : Int
  q : Int
  d : Bool
def MAt (M B n c : Nat) (s : MS) (w : World) : Prop := MemAt M B n c (some ⟨B, 0, none⟩) s.ws s.st s.k s.a s.p s.q s.d w
theorem keep7 {B : Nat} {v0 v1 v2 v3 v4 v5 v6 : Value} {wx wy : World} (h : wx.cell? ⟨B, 0, none⟩ = some v0 ∧ wx.cell? ⟨B, 1, none⟩ = some v1 ∧ wx.cell? ⟨B, 2, none⟩ = some v2 ∧ wx.cell? ⟨B, 3, none⟩ = some v3 ∧ wx.cell? ⟨B, 4, none⟩ = some v4 ∧ wx.cell? ⟨B, 5, none⟩ = some v5 ∧ wx.cell? ⟨B, 6, none⟩ = some v6) (hs : B < wx.heap.size) (hb : Below wx.heap.size wx wy) : wy.cell? ⟨B, 0, none⟩ = some v0 ∧ wy.cell? ⟨B, 1, none⟩ = some v1 ∧ wy.cell? ⟨B, 2, none⟩ = some v2 ∧ wy.cell? ⟨B, 3, none⟩ = some v3 ∧ wy.cell? ⟨B, 4, none⟩ = some v4 ∧ wy.cell? ⟨B, 5, none⟩ = some v5 ∧ wy.cell? ⟨B, 6, none⟩ = some v6 := by
  have e : ∀ o, wy.cell? ⟨B, o, none⟩ = wx.cell? ⟨B, o, none⟩ := fun o => hb.cell (p := ⟨B, o, none⟩) hs
  obtain ⟨c0, c1, c2, c3, c4, c5, c6⟩ := h
  exact ⟨(e 0).trans c0, (e 1).trans c1, (e 2).trans c2, (e 3).trans c3, (e 4).trans c4, (e 5).trans c5, (e 6).trans c6⟩
set_option maxRecDepth 100000 in
set_option maxHeartbeats 4000000 in
theorem twin_is {M B n c : Nat} {s : MS} {w : World} (h : MAt M B n c s w) (hn : n ≤ 8192) : Calls Try.prog 17 #[.pointer (some ⟨M, 0, none⟩)] w fun e w' => ∃ M' B' c' : Nat, e = .returned (.pointer (some ⟨M', 0, none⟩)) ∧ MAt M' B' n c' s w' ∧ w.heap.size ≤ M' ∧ w.heap.size ≤ B' ∧ Below w.heap.size w w' := by
  obtain ⟨ws, st, k, a, p, q, d⟩ := s
  have H := Lib.hid (show MemAt M B n c (some ⟨B, 0, none⟩) ws st k a p q d w from h)
  have HC := Lib.hid (clone_is (c := c) (w := w.drew) (show WordsAt B n (some ⟨B, 0, none⟩) ws w.drew from ⟨rfl, H.out.bl, fun i hi => (H.out.wd i hi).2.2⟩) hn)
  have hS0 : w.drew.cell? ⟨M, 0, none⟩ = some (.slice (some ⟨B, 0, none⟩) n c) ∧ w.drew.cell? ⟨M, 1, none⟩ = some (.int .i64 st) ∧ w.drew.cell? ⟨M, 2, none⟩ = some (.int .i64 k) ∧ w.drew.cell? ⟨M, 3, none⟩ = some (.int .i64 a) ∧ w.drew.cell? ⟨M, 4, none⟩ = some (.int .u64 p) ∧ w.drew.cell? ⟨M, 5, none⟩ = some (.int .u64 q) ∧ w.drew.cell? ⟨M, 6, none⟩ = some (.bool d) := ⟨H.out.c0, H.out.c1, H.out.c2, H.out.c3, H.out.c4, H.out.c5, H.out.c6⟩
  clear h
  go_enter Try.func17, Try.ntmps17
  go_wp2_with fail
  go_region_held3 (fun w' => w'.cell? ⟨M, 0, none⟩ = some (.slice (some ⟨B, 0, none⟩) n c) ∧ w'.cell? ⟨M, 1, none⟩ = some (.int .i64 st) ∧ w'.cell? ⟨M, 2, none⟩ = some (.int .i64 k) ∧ w'.cell? ⟨M, 3, none⟩ = some (.int .i64 a) ∧ w'.cell? ⟨M, 4, none⟩ = some (.int .u64 p) ∧ w'.cell? ⟨M, 5, none⟩ = some (.int .u64 q) ∧ w'.cell? ⟨M, 6, none⟩ = some (.bool d)) (first | with_reducible exact hS0 | with_reducible exact hS1 | with_reducible exact hS2 | fail)
    (first
      | ((with_reducible refine HC.out.mono ?_); rintro e wy ⟨B', c', rfl, hW, hl, hby⟩; have HW := Lib.hid (show WordsAt B' n (some ⟨B', 0, none⟩) ws wy from hW); have hS1 := keep7 hS0 (show M < w.drew.heap.size from H.out.ml) hby; have HB := Lib.hid (show Below w.heap.size w wy from Below.step (show Below w.heap.size w w.drew from Below.drew (Below.refl _ _)) hby); have HLB := Lib.hid (show w.heap.size ≤ B' from hl); have hly : w.heap.size ≤ wy.heap.size := HB.out.size; have hS2 := keep7 (wy := wy.alloc (Obj.cells #[.slice (some ⟨B', 0, none⟩) n c', .int .i64 st, .int .i64 k, .int .i64 a, .int .u64 p, .int .u64 q, .bool d] 95)) hS1 (Nat.lt_of_lt_of_le H.out.ml hly) (by go_grown); clear hW hl hby)
      | fail)
  have g2 := heap_alloc_new wy (Obj.cells #[.slice (some ⟨B', 0, none⟩) n c', .int .i64 st, .int .i64 k, .int .i64 a, .int .u64 p, .int .u64 q, .bool d] 95)
  have G2 := Lib.hid g2
  have hbA : Below wy.heap.size wy (wy.alloc (Obj.cells #[.slice (some ⟨B', 0, none⟩) n c', .int .i64 st, .int .i64 k, .int .i64 a, .int .u64 p, .int .u64 q, .bool d] 95)) := by go_grown
  have HBA := Lib.hid hbA
  clear g2 hbA
  go_wp2
  go_ret
  have HWA := HW.out.below HBA.out
  refine ⟨wy.heap.size, B', c', rfl, ⟨?_, ?_, ?_, ?_, ?_, ?_, ?_, fun o _ => blk_frozen G2.out o, blk_lt G2.out, fun i hi => ⟨rfl, HWA.bl, (HWA.wd i hi).1, (HWA.wd i hi).2.1, (HWA.wd i hi).2.2⟩, fun e => absurd (e ▸ HW.out.bl) (Nat.lt_irrefl _), rfl, HWA.bl⟩, hly, HLB.out, Below.step HB.out HBA.out⟩
  all_goals (rw [cell_of_row _ _ _ _ _ _ G2.out]; rfl)
/-- An operation. -/
structure OpV where
  k : Int
  a : Int
  o : Int
  x : Int
def eff (n : Nat) (s : MS) (o : OpV) : MS :=
  if 0 ≤ o.a ∧ o.a < n then
    if o.k = 1 then ⟨upd s.ws o.a.toNat (s.ws o.a.toNat), s.st + 1, 1, o.a.toNat, s.ws o.a.toNat, s.ws o.a.toNat, true⟩
    else if o.k = 2 then ⟨upd s.ws o.a.toNat o.x, s.st + 1, 2, o.a.toNat, s.ws o.a.toNat, o.x, true⟩
    else if o.k = 3 then
      if s.ws o.a.toNat = o.o then ⟨upd s.ws o.a.toNat o.x, s.st + 1, 3, o.a.toNat, s.ws o.a.toNat, o.x, true⟩
      else ⟨upd s.ws o.a.toNat (s.ws o.a.toNat), s.st + 1, 3, o.a.toNat, s.ws o.a.toNat, s.ws o.a.toNat, false⟩
    else s
  else s
def run (n : Nat) (g : Nat → OpV) (s : MS) : Nat → MS
  | 0 => s
  | k + 1 => eff n (run n g s k) (g k)
theorem eff_st (n : Nat) (s : MS) (o : OpV) : s.st ≤ (eff n s o).st ∧ (eff n s o).st ≤ s.st + 1 := by
  unfold eff
  repeat' split
  all_goals (first | omega | (simp only; omega))
theorem run_st (n : Nat) (g : Nat → OpV) (s : MS) (k : Nat) : s.st ≤ (run n g s k).st ∧ (run n g s k).st ≤ s.st + k := by
  induction k with
  | zero => exact ⟨Int.le_refl _, by simp [run]⟩
  | succ k ih =>
    have := eff_st n (run n g s k) (g k)
    show s.st ≤ (eff n (run n g s k) (g k)).st ∧ (eff n (run n g s k) (g k)).st ≤ s.st + ((k + 1 : Nat) : Int)
    omega
theorem eff_out (n : Nat) (s : MS) (o : OpV) (h : o.a < 0 ∨ (n : Int) ≤ o.a) : eff n s o = s := by unfold eff; rw [if_neg (by omega)]
theorem eff_none (n : Nat) (s : MS) (o : OpV) (h1 : o.k ≠ 1) (h2 : o.k ≠ 2) (h3 : o.k ≠ 3) : eff n s o = s := by unfold eff; rw [if_neg h1, if_neg h2, if_neg h3]; split <;> rfl
theorem eff_load (n i : Nat) (s : MS) (o x : Int) (hi : i < n) : eff n s ⟨1, i, o, x⟩ = ⟨upd s.ws i (s.ws i), s.st + 1, 1, i, s.ws i, s.ws i, true⟩ := by
  unfold eff; rw [if_pos (show 0 ≤ (i : Int) ∧ (i : Int) < (n : Int) from by omega), if_pos rfl]; rfl
theorem eff_store (n i : Nat) (s : MS) (o x : Int) (hi : i < n) : eff n s ⟨2, i, o, x⟩ = ⟨upd s.ws i x, s.st + 1, 2, i, s.ws i, x, true⟩ := by
  unfold eff; rw [if_pos (show 0 ≤ (i : Int) ∧ (i : Int) < (n : Int) from by omega), if_neg (show ¬ ((2 : Int) = 1) from by decide), if_pos rfl]; rfl
theorem eff_yes (n i : Nat) (s : MS) (o x : Int) (hi : i < n) (h : s.ws i = o) : eff n s ⟨3, i, o, x⟩ = ⟨upd s.ws i x, s.st + 1, 3, i, s.ws i, x, true⟩ := by
  unfold eff; rw [if_pos (show 0 ≤ (i : Int) ∧ (i : Int) < (n : Int) from by omega), if_neg (show ¬ ((3 : Int) = 1) from by decide), if_neg (show ¬ ((3 : Int) = 2) from by decide), if_pos (show (3 : Int) = 3 from rfl), if_pos (show s.ws ((i : Int).toNat) = o from h)]; rfl
theorem eff_no (n i : Nat) (s : MS) (o x : Int) (hi : i < n) (h : s.ws i ≠ o) : eff n s ⟨3, i, o, x⟩ = ⟨upd s.ws i (s.ws i), s.st + 1, 3, i, s.ws i, s.ws i, false⟩ := by
  unfold eff; rw [if_pos (show 0 ≤ (i : Int) ∧ (i : Int) < (n : Int) from by omega), if_neg (show ¬ ((3 : Int) = 1) from by decide), if_neg (show ¬ ((3 : Int) = 2) from by decide), if_pos (show (3 : Int) = 3 from rfl), if_neg (show ¬ s.ws ((i : Int).toNat) = o from h)]; rfl
theorem Oth.cell {M B : Nat} {w w' : World} (h : Oth M B w w') {p : Addr} (h0 : p.block < w.heap.size) (h1 : p.block ≠ M) (h2 : p.block ≠ B) : w'.cell? p = w.cell? p := World.cell?_of_block (w := w) (h.2.2.2.2 _ h0 h1 h2)
theorem Oth.frozen {M B : Nat} {w w' : World} (h : Oth M B w w') {p : Addr} (h0 : p.block < w.heap.size) (h1 : p.block ≠ M) (h2 : p.block ≠ B) : w'.frozen? p = w.frozen? p := World.frozen?_of_block (w := w) (h.2.2.2.2 _ h0 h1 h2)
theorem MAt.oth {M B n c M' B' : Nat} {s : MS} {w w' : World} (h : MAt M B n c s w) (o : Oth M' B' w w') (h1 : M ≠ M') (h2 : M ≠ B') (h3 : B ≠ M') (h4 : B ≠ B') : MAt M B n c s w' := by
  have hc : ∀ i, w'.cell? ⟨M, i, none⟩ = w.cell? ⟨M, i, none⟩ := fun i => o.cell (p := ⟨M, i, none⟩) h.ml h1 h2
  have hf : ∀ i, w'.frozen? ⟨M, i, none⟩ = w.frozen? ⟨M, i, none⟩ := fun i => o.frozen (p := ⟨M, i, none⟩) h.ml h1 h2
  have bc : ∀ i, w'.cell? ⟨B, i, none⟩ = w.cell? ⟨B, i, none⟩ := fun i => o.cell (p := ⟨B, i, none⟩) h.bl h3 h4
  have bf : ∀ i, w'.frozen? ⟨B, i, none⟩ = w.frozen? ⟨B, i, none⟩ := fun i => o.frozen (p := ⟨B, i, none⟩) h.bl h3 h4
  have hz := o.2.2.2.1
  exact ⟨(hc 0).trans h.c0, (hc 1).trans h.c1, (hc 2).trans h.c2, (hc 3).trans h.c3, (hc 4).trans h.c4, (hc 5).trans h.c5, (hc 6).trans h.c6, fun i hi => (hf i).trans (h.fz i hi), Nat.lt_of_lt_of_le h.ml hz, fun i hi => ⟨rfl, Nat.lt_of_lt_of_le h.bl hz, (bc i).trans (h.wd i hi).2.2.1, (bf i).trans (h.wd i hi).2.2.2.1, (h.wd i hi).2.2.2.2⟩, h.ne, rfl, Nat.lt_of_lt_of_le h.bl hz⟩
theorem MAt.below {M B n c : Nat} {s : MS} {w w' : World} (h : MAt M B n c s w) (hb : Below w.heap.size w w') : MAt M B n c s w' := MemAt.below h hb
theorem WordsAt.oth {B n M' B' : Nat} {A : Option Addr} {ws : Nat → Int} {w w' : World} (h : WordsAt B n A ws w) (o : Oth M' B' w w') (h3 : B ≠ M') (h4 : B ≠ B') : WordsAt B n A ws w' := by
  have bc : ∀ i, w'.cell? ⟨B, i, none⟩ = w.cell? ⟨B, i, none⟩ := fun i => o.cell (p := ⟨B, i, none⟩) h.bl h3 h4
  have bf : ∀ i, w'.frozen? ⟨B, i, none⟩ = w.frozen? ⟨B, i, none⟩ := fun i => o.frozen (p := ⟨B, i, none⟩) h.bl h3 h4
  exact ⟨h.ha, Nat.lt_of_lt_of_le h.bl o.2.2.2.1, fun i hi => ⟨(bc i).trans (h.wd i hi).1, (bf i).trans (h.wd i hi).2.1, (h.wd i hi).2.2⟩⟩
theorem add_pos (a : Addr) (i : Nat) (hi : i ≠ 0) (h : a.spot = none) : a.add i = ⟨a.block, a.off + i, none⟩ := by
  unfold Addr.add
  rw [if_neg hi]
/-- Operations that are there. -/
def OpsAt (A : Option Addr) (len : Nat) (g : Nat → OpV) (w : World) : Prop := 0 < len → ∃ ad, A = some ad ∧ ad.block < w.heap.size ∧ ∀ i, i < len →
  w.cell? (ad.add (i * 4)) = some (.int .i64 (g i).k) ∧ w.cell? (ad.add (i * 4 + 1)) = some (.int .i64 (g i).a) ∧ w.cell? (ad.add (i * 4 + 2)) = some (.int .u64 (g i).o) ∧ w.cell? (ad.add (i * 4 + 3)) = some (.int .u64 (g i).x) ∧ 0 ≤ (g i).x ∧ (g i).x ≤ 18446744073709551615
set_option maxRecDepth 100000 in
set_option maxHeartbeats 4000000 in
theorem do_is {M B n c : Nat} {s : MS} {w : World} (h : MAt M B n c s w) (hn : n ≤ 8192) (hs : 0 ≤ s.st ∧ s.st ≤ 500000) (A : Option Addr) (len cap : Nat) (hlen : len ≤ 100) (g : Nat → OpV) (hO : OpsAt A len g w) (hM : ∀ ad, 0 < len → A = some ad → ad.block ≠ M ∧ ad.block ≠ B) :
    Calls Try.prog 11 #[.pointer (some ⟨M, 0, none⟩), .slice A len cap] w fun e w' => e = .returned (.tuple #[]) ∧ MAt M B n c (run n g s len) w' ∧ Oth M B w w' := by
  have H := Lib.hid h
  have HO := Lib.hid hO
  have HMM := Lib.hid hM
  have HST := Lib.hid (fun k => run_st n g s k)
  have HS := Lib.hid hs
  clear h hO hM hs
  go_enter Try.func11, Try.ntmps11
  go_wp2_with fail
  go_loopw [8] (fun i wr => ∃ k : Nat, k ≤ len ∧ i = .int .i64 k ∧ Hid (MAt M B n c (run n g s k) wr ∧ Oth M B w wr)) (fun i _ => len + 1 - (intOf i).toNat)
  case atStart => exact ⟨0, Nat.zero_le _, rfl, Lib.hid ⟨H.out, Oth.refl _ _ _⟩⟩
  case round =>
    obtain ⟨k, hk, rfl, HR⟩ := hrel
    by_cases hkl : k < len
    · obtain ⟨ad, rfl, hab, hcells⟩ := HO.out (by omega)
      obtain ⟨q0, q1, q2, q3, hx⟩ := hcells k hkl
      have HX := Lib.hid hx
      clear hx hcells
      have hne := HMM.out ad (by omega) rfl
      have e0 := HR.out.2.cell (p := ad.add (k * 4)) (by rw [block_of_add]; exact hab) (by rw [block_of_add]; exact hne.1) (by rw [block_of_add]; exact hne.2)
      have e1 := HR.out.2.cell (p := ad.add (k * 4 + 1)) (by rw [block_of_add]; exact hab) (by rw [block_of_add]; exact hne.1) (by rw [block_of_add]; exact hne.2)
      have e2 := HR.out.2.cell (p := ad.add (k * 4 + 2)) (by rw [block_of_add]; exact hab) (by rw [block_of_add]; exact hne.1) (by rw [block_of_add]; exact hne.2)
      have e3 := HR.out.2.cell (p := ad.add (k * 4 + 3)) (by rw [block_of_add]; exact hab) (by rw [block_of_add]; exact hne.1) (by rw [block_of_add]; exact hne.2)
      have d0 := e0.trans q0
      have d1 := e1.trans q1
      have d2 := e2.trans q2
      have d3 := e3.trans q3
      clear e0 e1 e2 e3 q0 q1 q2 q3
      have HST0 := Lib.hid (show 0 ≤ (run n g s k).st ∧ (run n g s k).st ≤ 1000000 from by have h1 := HST.out k; have h2 := HS.out; omega)
      have HSUC := Lib.hid (show run n g s (k + 1) = eff n (run n g s k) (g k) from rfl)
      generalize run n g s k = s1 at *
      generalize g k = op at *
      obtain ⟨kd, at_, old, x⟩ := op
      have d0' : wr.cell? (ad.add (k * 4)) = some (.int .i64 kd) := d0
      have d1' : wr.cell? ⟨(ad.add (k * 4)).block, (ad.add (k * 4)).off + 1, none⟩ = some (.int .i64 at_) := by rw [← add_pos _ 1 (by decide) (World.cell?_spot d0), add_of_add]; exact d1
      have d2' : wr.cell? ⟨(ad.add (k * 4)).block, (ad.add (k * 4)).off + 2, none⟩ = some (.int .u64 old) := by rw [← add_pos _ 2 (by decide) (World.cell?_spot d0), add_of_add]; exact d2
      have d3' : wr.cell? ⟨(ad.add (k * 4)).block, (ad.add (k * 4)).off + 3, none⟩ = some (.int .u64 x) := by rw [← add_pos _ 3 (by decide) (World.cell?_spot d0), add_of_add]; exact d3
      clear d0 d1 d2 d3
      have k0 : (0 : Int) ≤ (k : Int) := by omega
      have k1 : (k : Int) < (len : Int) := by omega
      by_cases e1 : kd = 1
      · subst e1
        by_cases hin : 0 ≤ at_ ∧ at_ < (n : Int)
        · obtain ⟨i, rfl⟩ : ∃ i : Nat, at_ = (i : Int) := ⟨at_.toNat, by omega⟩
          have hi : i < n := by omega
          have HI := Lib.hid hi
          clear hin hi
          have HA := Lib.hid (show MAt M B n c s1 (wr.alloc (Obj.cells #[.int .i64 1, .int .i64 (i : Int), .int .u64 old, .int .u64 x] 31)) ∧ Oth M B w (wr.alloc (Obj.cells #[.int .i64 1, .int .i64 (i : Int), .int .u64 old, .int .u64 x] 31)) from ⟨HR.out.1.below (by go_grown), HR.out.2.trans (Oth.of (by go_grown))⟩)
          clear HR
          go_wp2_with fail
          refine (load_in HA.out.1 i HI.out HST0.out).mono ?_
          rintro e w1 ⟨rfl, hM1, _, _, hO1⟩
          have HF := Lib.hid (show MAt M B n c (run n g s (k + 1)) w1 ∧ Oth M B w w1 from ⟨by rw [HSUC.out, eff_load n i s1 old x HI.out]; exact hM1, HA.out.2.trans hO1⟩)
          clear hM1 hO1 HA HSUC
          go_wp2_with fail
          go_roundw
          case rel => exact ⟨k + 1, by omega, by go_num, Lib.hid HF.out⟩
          case measure => simp [intOf]; omega
        · have hout : at_ < 0 ∨ (n : Int) ≤ at_ := by omega
          have HA := Lib.hid (show MAt M B n c s1 (wr.alloc (Obj.cells #[.int .i64 1, .int .i64 at_, .int .u64 old, .int .u64 x] 31)) ∧ Oth M B w (wr.alloc (Obj.cells #[.int .i64 1, .int .i64 at_, .int .u64 old, .int .u64 x] 31)) from ⟨HR.out.1.below (by go_grown), HR.out.2.trans (Oth.of (by go_grown))⟩)
          clear HR
          have HX2 := Lib.hid hout
          clear hin hout
          go_wp2_with fail
          refine (load_out HA.out.1 at_ HX2.out).mono ?_
          rintro e w1 ⟨v, rfl, _, hb1⟩
          have HF := Lib.hid (show MAt M B n c (run n g s (k + 1)) w1 ∧ Oth M B w w1 from ⟨by rw [HSUC.out, eff_out n s1 _ HX2.out]; exact HA.out.1.below hb1, HA.out.2.trans (Oth.of hb1)⟩)
          clear hb1 HA HSUC
          go_wp2_with fail
          go_roundw
          case rel => exact ⟨k + 1, by omega, by go_num, Lib.hid HF.out⟩
          case measure => simp [intOf]; omega
      by_cases e2 : kd = 2
      · subst e2
        clear e1
        by_cases hin : 0 ≤ at_ ∧ at_ < (n : Int)
        · obtain ⟨i, rfl⟩ : ∃ i : Nat, at_ = (i : Int) := ⟨at_.toNat, by omega⟩
          have hi : i < n := by omega
          have HI := Lib.hid hi
          clear hin hi
          have HA := Lib.hid (show MAt M B n c s1 (wr.alloc (Obj.cells #[.int .i64 2, .int .i64 (i : Int), .int .u64 old, .int .u64 x] 31)) ∧ Oth M B w (wr.alloc (Obj.cells #[.int .i64 2, .int .i64 (i : Int), .int .u64 old, .int .u64 x] 31)) from ⟨HR.out.1.below (by go_grown), HR.out.2.trans (Oth.of (by go_grown))⟩)
          clear HR
          go_wp2_with fail
          refine (store_in HA.out.1 i HI.out x HX.out HST0.out).mono ?_
          rintro e w1 ⟨rfl, hM1, _, _, hO1⟩
          have HF := Lib.hid (show MAt M B n c (run n g s (k + 1)) w1 ∧ Oth M B w w1 from ⟨by rw [HSUC.out, eff_store n i s1 old x HI.out]; exact hM1, HA.out.2.trans hO1⟩)
          clear hM1 hO1 HA HSUC
          go_wp2_with fail
          go_roundw
          case rel => exact ⟨k + 1, by omega, by go_num, Lib.hid HF.out⟩
          case measure => simp [intOf]; omega
        · have hout : at_ < 0 ∨ (n : Int) ≤ at_ := by omega
          have HA := Lib.hid (show MAt M B n c s1 (wr.alloc (Obj.cells #[.int .i64 2, .int .i64 at_, .int .u64 old, .int .u64 x] 31)) ∧ Oth M B w (wr.alloc (Obj.cells #[.int .i64 2, .int .i64 at_, .int .u64 old, .int .u64 x] 31)) from ⟨HR.out.1.below (by go_grown), HR.out.2.trans (Oth.of (by go_grown))⟩)
          clear HR
          have HX2 := Lib.hid hout
          clear hin hout
          go_wp2_with fail
          refine (store_out HA.out.1 at_ HX2.out x).mono ?_
          rintro e w1 ⟨v, rfl, _, hb1⟩
          have HF := Lib.hid (show MAt M B n c (run n g s (k + 1)) w1 ∧ Oth M B w w1 from ⟨by rw [HSUC.out, eff_out n s1 _ HX2.out]; exact HA.out.1.below hb1, HA.out.2.trans (Oth.of hb1)⟩)
          clear hb1 HA HSUC
          go_wp2_with fail
          go_roundw
          case rel => exact ⟨k + 1, by omega, by go_num, Lib.hid HF.out⟩
          case measure => simp [intOf]; omega
      by_cases e3 : kd = 3
      · subst e3
        clear e1 e2
        by_cases hin : 0 ≤ at_ ∧ at_ < (n : Int)
        · obtain ⟨i, rfl⟩ : ∃ i : Nat, at_ = (i : Int) := ⟨at_.toNat, by omega⟩
          have hi : i < n := by omega
          have HI := Lib.hid hi
          clear hin hi
          by_cases hsw : s1.ws i = old
          · have HW := Lib.hid hsw
            clear hsw
            have HA := Lib.hid (show MAt M B n c s1 (wr.alloc (Obj.cells #[.int .i64 3, .int .i64 (i : Int), .int .u64 old, .int .u64 x] 31)) ∧ Oth M B w (wr.alloc (Obj.cells #[.int .i64 3, .int .i64 (i : Int), .int .u64 old, .int .u64 x] 31)) from ⟨HR.out.1.below (by go_grown), HR.out.2.trans (Oth.of (by go_grown))⟩)
            clear HR
            go_wp2_with fail
            refine (swap_yes HA.out.1 i HI.out old x HX.out HST0.out HW.out).mono ?_
            rintro e w1 ⟨rfl, hM1, _, _, hO1⟩
            have HF := Lib.hid (show MAt M B n c (run n g s (k + 1)) w1 ∧ Oth M B w w1 from ⟨by rw [HSUC.out, eff_yes n i s1 old x HI.out HW.out]; exact hM1, HA.out.2.trans hO1⟩)
            clear hM1 hO1 HA HSUC
            go_wp2_with fail
            go_roundw
            case rel => exact ⟨k + 1, by omega, by go_num, Lib.hid HF.out⟩
            case measure => simp [intOf]; omega
          · have HW := Lib.hid hsw
            clear hsw
            have HA := Lib.hid (show MAt M B n c s1 (wr.alloc (Obj.cells #[.int .i64 3, .int .i64 (i : Int), .int .u64 old, .int .u64 x] 31)) ∧ Oth M B w (wr.alloc (Obj.cells #[.int .i64 3, .int .i64 (i : Int), .int .u64 old, .int .u64 x] 31)) from ⟨HR.out.1.below (by go_grown), HR.out.2.trans (Oth.of (by go_grown))⟩)
            clear HR
            go_wp2_with fail
            refine (swap_no HA.out.1 i HI.out old x HST0.out HW.out).mono ?_
            rintro e w1 ⟨rfl, hM1, _, _, hO1⟩
            have HF := Lib.hid (show MAt M B n c (run n g s (k + 1)) w1 ∧ Oth M B w w1 from ⟨by rw [HSUC.out, eff_no n i s1 old x HI.out HW.out]; exact hM1, HA.out.2.trans hO1⟩)
            clear hM1 hO1 HA HSUC
            go_wp2_with fail
            go_roundw
            case rel => exact ⟨k + 1, by omega, by go_num, Lib.hid HF.out⟩
            case measure => simp [intOf]; omega
        · have hout : at_ < 0 ∨ (n : Int) ≤ at_ := by omega
          have HA := Lib.hid (show MAt M B n c s1 (wr.alloc (Obj.cells #[.int .i64 3, .int .i64 at_, .int .u64 old, .int .u64 x] 31)) ∧ Oth M B w (wr.alloc (Obj.cells #[.int .i64 3, .int .i64 at_, .int .u64 old, .int .u64 x] 31)) from ⟨HR.out.1.below (by go_grown), HR.out.2.trans (Oth.of (by go_grown))⟩)
          clear HR
          have HX2 := Lib.hid hout
          clear hin hout
          go_wp2_with fail
          refine (swap_out HA.out.1 at_ HX2.out old x).mono ?_
          rintro e w1 ⟨v, rfl, _, hb1⟩
          have HF := Lib.hid (show MAt M B n c (run n g s (k + 1)) w1 ∧ Oth M B w w1 from ⟨by rw [HSUC.out, eff_out n s1 _ HX2.out]; exact HA.out.1.below hb1, HA.out.2.trans (Oth.of hb1)⟩)
          clear hb1 HA HSUC
          go_wp2_with fail
          go_roundw
          case rel => exact ⟨k + 1, by omega, by go_num, Lib.hid HF.out⟩
          case measure => simp [intOf]; omega
      have b1 : (kd == 1) = false := by rw [beq_eq_false_iff_ne]; exact e1
      have b2 : (kd == 2) = false := by rw [beq_eq_false_iff_ne]; exact e2
      have b3 : (kd == 3) = false := by rw [beq_eq_false_iff_ne]; exact e3
      have HF := Lib.hid (show MAt M B n c (run n g s (k + 1)) (wr.alloc (Obj.cells #[.int .i64 kd, .int .i64 at_, .int .u64 old, .int .u64 x] 31)) ∧ Oth M B w (wr.alloc (Obj.cells #[.int .i64 kd, .int .i64 at_, .int .u64 old, .int .u64 x] 31)) from ⟨by rw [HSUC.out, eff_none n s1 _ e1 e2 e3]; exact HR.out.1.below (by go_grown), HR.out.2.trans (Oth.of (by go_grown))⟩)
      clear e1 e2 e3 HR HSUC
      go_wp2_with fail
      go_roundw
      case rel => exact ⟨k + 1, by omega, by go_num, Lib.hid HF.out⟩
      case measure => simp [intOf]; omega
    · obtain rfl : k = len := by omega
      go_wp2
      go_end0
      exact ⟨rfl, HR.out⟩
set_option maxRecDepth 100000 in
set_option maxHeartbeats 4000000 in
theorem same_is {B1 B2 n c1 c2 : Nat} {A1 A2 : Option Addr} {ws : Nat → Int} {w : World} (h1 : WordsAt B1 n A1 ws w) (h2 : WordsAt B2 n A2 ws w) (hn : n ≤ 8192) :
    Calls Try.prog 15 #[.slice A1 n c1, .slice A2 n c2] w fun e w' => e = .returned (.bool true) ∧ Below w.heap.size w w' := by
  obtain rfl := h1.ha
  obtain rfl := h2.ha
  have H1 := Lib.hid h1
  have H2 := Lib.hid h2
  clear h1 h2
  go_enter Try.func15, Try.ntmps15
  go_wp2_with fail
  go_loopw [13] (fun i wr => ∃ k : Nat, k ≤ n ∧ i = .int .i64 k ∧ Below w.heap.size w wr) (fun i _ => n + 1 - (intOf i).toNat)
  case atStart => exact ⟨0, Nat.zero_le _, rfl, Below.refl _ _⟩
  case round =>
    obtain ⟨k, hk, rfl, hB⟩ := hrel
    by_cases hkn : k < n
    · have q1 := (hB.cell (p := ⟨B1, k, none⟩) H1.out.bl).trans (H1.out.wd k hkn).1
      have q2 := (hB.cell (p := ⟨B2, k, none⟩) H2.out.bl).trans (H2.out.wd k hkn).1
      have hb1 : B1 < wr.heap.size := Nat.lt_of_lt_of_le H1.out.bl hB.size
      have hb2 : B2 < wr.heap.size := Nat.lt_of_lt_of_le H2.out.bl hB.size
      generalize ws k = x at *
      have k0 : (0 : Int) ≤ (k : Int) := by omega
      have k1 : (k : Int) < (n : Int) := by omega
      go_wp2_with fail
      refine region_sc (by kernel_rfl) (by kernel_rfl) ?_
      iterate 3 (first | go_big_quiet_skip | (go_big_quiet_want; go_big_quiet_op; first | go_big_quiet_on | (refine ⟨_, fun _ _ => rfl, ?_⟩; go_big_quiet_on)))
      go_big_quiet_want
      refine ⟨.int .u64 x, fun wq hq => ?_, ?_⟩
      · have q0 := (Below.cell hq (p := ⟨B1, k, none⟩) hb1).trans q1
        unfold Oper.quietAt
        simp [go_sem, q0, Oper.quietUpon]
      simp only [Act.put, List.setIfInBounds_toArray, List.set_cons_zero, List.set_cons_succ]
      go_big_quiet_on
      iterate 3 (first | go_big_quiet_skip | (go_big_quiet_want; go_big_quiet_op; first | go_big_quiet_on | (refine ⟨_, fun _ _ => rfl, ?_⟩; go_big_quiet_on)))
      go_big_quiet_want
      refine ⟨.int .u64 x, fun wq hq => ?_, ?_⟩
      · have q0 := (Below.cell hq (p := ⟨B2, k, none⟩) hb2).trans q2
        unfold Oper.quietAt
        simp [go_sem, q0, Oper.quietUpon]
      simp only [Act.put, List.setIfInBounds_toArray, List.set_cons_zero, List.set_cons_succ]
      go_big_quiet_on
      iterate 1 (first | go_big_quiet_skip | (go_big_quiet_want; go_big_quiet_op; first | go_big_quiet_on | (refine ⟨_, fun _ _ => rfl, ?_⟩; go_big_quiet_on)))
      refine wpQuiet_nil ?_
      intro w9 hv
      have hB9 : Below w.heap.size w w9 := Below.step hB hv
      clear hv q1 q2 hB hb1 hb2
      go_wp2_with fail
      go_roundw
      case rel => exact ⟨k + 1, by omega, by go_num, hB9⟩
      case measure => simp [intOf]; omega
    · obtain rfl : k = n := by omega
      go_wp2
      go_ret
      exact ⟨rfl, hB⟩
theorem new_mat (n : Nat) (hn : n ≤ 8192) (w : World) : Calls Try.prog 9 #[.int .i64 (n : Int)] w fun e w' => ∃ M B : Nat, e = .returned (.tuple #[.pointer (some ⟨M, 0, none⟩), .nilIface]) ∧ MAt M B n n ⟨fun _ => 0, 0, 0, 0, 0, 0, false⟩ w' ∧ w.heap.size ≤ M ∧ w.heap.size ≤ B ∧ Below w.heap.size w w' := by
  refine (new_is n hn w).mono ?_
  rintro e w1 ⟨rfl, hM, hb⟩
  exact ⟨w.heap.size + 1, w.heap.size, rfl, hM, by omega, Nat.le_refl _, hb⟩
theorem OpsAt.below {A : Option Addr} {len : Nat} {g : Nat → OpV} {w w' : World} (h : OpsAt A len g w) (hb : Below w.heap.size w w') : OpsAt A len g w' := fun h0 => by
  obtain ⟨ad, e, h1, h2⟩ := h h0
  have hc : ∀ i, w'.cell? (ad.add i) = w.cell? (ad.add i) := fun i => hb.cell (p := ad.add i) (by rw [block_of_add]; exact h1)
  exact ⟨ad, e, Nat.lt_of_lt_of_le h1 hb.size, fun i hi => ⟨(hc _).trans (h2 i hi).1, (hc _).trans (h2 i hi).2.1, (hc _).trans (h2 i hi).2.2.1, (hc _).trans (h2 i hi).2.2.2.1, (h2 i hi).2.2.2.2⟩⟩
/-- Where the operations lie: not in the words' blocks. -/
theorem do_any {M B n c : Nat} {s : MS} {w W : World} (h : MAt M B n c s w) (hn : n ≤ 8192) (hs : 0 ≤ s.st ∧ s.st ≤ 500000) (A : Option Addr) (len cap : Nat) (hlen : len ≤ 100) (g : Nat → OpV) (hO : OpsAt A len g W) (hb : Below W.heap.size W w) (hM : W.heap.size ≤ M) (hB : W.heap.size ≤ B) :
    Calls Try.prog 11 #[.pointer (some ⟨M, 0, none⟩), .slice A len cap] w fun e w' => e = .returned (.tuple #[]) ∧ MAt M B n c (run n g s len) w' ∧ Oth M B w w' := by
  exact do_is h hn hs A len cap hlen g (hO.below hb) (fun a h0 e => by
    obtain ⟨ad, e1, h1, _⟩ := hO h0
    rw [e1] at e
    injection e with e
    subst e
    exact ⟨by omega, by omega⟩)
set_option maxRecDepth 100000 in
set_option maxHeartbeats 4000000 in
theorem awake03 (w : World) : Calls Try.prog 10 #[] w fun e w' => e = .returned (.bool true) ∧ Below w.heap.size w w' := by
  have HNEW := Lib.hid (new_is 1 (by decide) w)
  have HNW : Hid (Calls Try.prog 9 #[.int .i64 1] w fun e w' => e = .returned (.tuple #[.pointer (some ⟨w.heap.size + 1, 0, none⟩), .nilIface]) ∧ MemAt (w.heap.size + 1) w.heap.size 1 1 (some ⟨w.heap.size, 0, none⟩) (fun _ => 0) 0 0 0 0 0 false w' ∧ Below w.heap.size w w') := HNEW.out
  clear HNEW
  go_enter Try.func10, Try.ntmps10
  go_wp2_with fail
  refine HNW.out.mono ?_
  rintro e w1 ⟨rfl, hM1, hB1⟩
  have HS1 : Hid (Calls Try.prog 14 #[.pointer (some ⟨w.heap.size + 1, 0, none⟩), .int .i64 0, .int .u64 0, .int .u64 7] w1 (Stepped (w.heap.size + 1) w.heap.size 1 1 (some ⟨w.heap.size, 0, none⟩) (upd (fun _ => 0) 0 7) (0 + 1) 3 (0 : Nat) 0 7 true (.tuple #[.bool true, .nilIface]) w1)) := swap_yes hM1 0 (by decide) 0 7 (by decide) (by decide) rfl
  clear hM1
  go_wp2_with fail
  refine HS1.out.mono ?_
  rintro e w2 ⟨rfl, hM2, hz2, hK2⟩
  have hB2 := hK2.1 w.heap.size w (by omega) (Nat.le_refl _) hB1
  have HS2 : Hid (Calls Try.prog 14 #[.pointer (some ⟨w.heap.size + 1, 0, none⟩), .int .i64 0, .int .u64 0, .int .u64 8] w2 (Stepped (w.heap.size + 1) w.heap.size 1 1 (some ⟨w.heap.size, 0, none⟩) (upd (upd (fun _ => 0) 0 7) 0 7) (0 + 1 + 1) 3 (0 : Nat) 7 7 false (.tuple #[.bool false, .nilIface]) w2)) := swap_no hM2 0 (by decide) 0 8 (by decide) (by decide)
  clear hM2 hK2 hz2
  go_wp2_with fail
  refine HS2.out.mono ?_
  rintro e w3 ⟨rfl, hM3, hz3, hK3⟩
  have hB3 := hK3.1 w.heap.size w (by omega) (Nat.le_refl _) hB2
  have HWD := Lib.hid (words_is hM3 (by decide))
  clear hM3 hK3 hz3
  go_wp2_with fail
  refine HWD.out.mono ?_
  rintro e w4 ⟨B', c', rfl, hW4, hl4, hb4⟩
  have hB4 := Below.step hB3 hb4
  have h7 : w4.cell? ⟨B', 0, none⟩ = some (.int .u64 7) := (hW4.wd 0 (by decide)).1
  clear hW4 hl4 hb4
  go_wp2
  go_ret
  exact ⟨rfl, hB4⟩
end Go.Proofs.Ytdjdpbgemdmpiaa

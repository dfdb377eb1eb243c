/-
  Limits handed on; a fence.
-/
import Derived.Test.YtmddgaokdlhegaaDoorRows
import Derived.Test.YtmddgaokdlhegaaDoorKit
import Derived.Test.YtmddgaokdlhegaaDoorApp
import Derived.Test.YtmddgaokdlhegaaDoorQuiet
import Derived.Test.YtmddgaokdlhegaaDoorFnM
import Derived.Test.YtmddgaokdlhegaaDoorFnO
import Derived.Test.YtmddgaokdlhegaaDoorFnB
import Derived.Test.YtmddgaokdlhegaaDoorFnR
import Derived.WalkKit
import Derived.ProofKit
import Derived.OpenShut
import Derived.ShutString
import Derived.Below
import Derived.Outline
import Derived.WalkLawsBesides
import Derived.WalkSpells
import Derived.Handy
import Derived.Deep.QuietTactic
import Derived.BigQuiet
import Derived.RegionTactic
import Derived.ChangeAlike
import Derived.Lib.Hide
import Derived.Laws.Rows
import Derived.Laws.Tables
import Derived.Laws.CopyOwn
import Derived.Laws.MakeOwn
import Derived.Laws.Entries
import Derived.Laws.OwnMore
import Derived.Deep.WholeRow
import Derived.Deep.LoopGhost
import Derived.Deep.AppendLies
import Derived.Deep.Draws
import Derived.Maps.AppendAt
import Derived.OwnWalk
import Derived.Deep.RegionHeld3
import Derived.Deep.Cut
import Derived.Deep.CutRange
import Derived.Deep.DeepCutAuto
import Derived.Deep.CutBlock
import Derived.Lib.SliceRun
import Derived.IntWalk
namespace Go.Proofs.YtmddgaokdlhegaaDoor
open Go.ChangeShapes Go.WideShapes Go.ChangeAt Go.RowKit
def lsn (g : Nat → Lim) (k : Nat) : List Lim := (List.range k).map g
theorem lsn_len (g : Nat → Lim) (k : Nat) : (lsn g k).length = k := by simp [lsn]
theorem lsn_succ (g : Nat → Lim) (k : Nat) : lsn g (k + 1) = lsn g k ++ [g k] := by simp [lsn, List.range_succ]
theorem lsn_get (g : Nat → Lim) {k j : Nat} (h : j < k) : (lsn g k)[j]? = some (g j) := by simp [lsn, h]
theorem infoL : (Tryd.prog.info? 61).map (fun i => (i.zero, i.size, i.bytes)) = some (some (.agg #[.int .i64 0, .int .i64 0, .int .i64 0, .int .i64 0, .int .i64 0]), 5, 40) := by kernel_rfl
theorem infoR : (Tryd.prog.info? 42).map (fun i => (i.zero, i.size, i.bytes)) = some (some (.agg #[.int .i64 0, .int .i64 0, .int .i64 0, .int .i64 0, .int .i64 0]), 5, 40) := by kernel_rfl
/-- A row of the call's own can be read. -/
theorem LimsAt.row {w : World} {base n c : Nat} {t : TypeId} {A : Option Addr} {g : Nat → Lim} (h : w.ownsRow base t 5 (.slice A n c) n (lv (lsn g n))) : LimsAt A n g w := fun h0 => by
  obtain ⟨b, cp, hv, _, hl⟩ := World.ownsRow.form h h0
  injection hv with e1 e2 e3
  subst e1
  refine ⟨_, rfl, hl, fun i hi j u hu => ?_⟩
  have hj : j < 5 := (List.getElem?_eq_some_iff.1 hu).1
  have hx := lv_get (lsn g n) i j (g i) (lsn_get g hi) hj
  have hc := World.ownsRow.cellAt h (i * 5 + j) (by omega)
  rw [hx, hu] at hc
  by_cases h3 : i * 5 + j = 0
  · rw [h3] at hc ⊢
    exact hc
  · rw [addp _ _ h3 rfl, Nat.zero_add]
    exact hc
set_option maxRecDepth 100000 in
set_option maxHeartbeats 8000000 in
theorem limits_is (A : Option Addr) (len cp : Nat) (g : Nat → Lim) (hn : len ≤ 100) (w : World) (h : LimsAt A len g w) : Calls Tryd.prog 9 #[.slice A len cp] w fun e w' => ∃ A' c', e = .returned (.slice A' len c') ∧ w'.ownsRow w.heap.size 61 5 (.slice A' len c') len (lv (lsn g len)) ∧ Below w.heap.size w w' := by
  obtain ⟨i0, hi0, hz0, hz1, hz2⟩ := info_parts infoL
  have HI0 := Lib.hid hi0
  have HZ0 := Lib.hid hz0
  have HZ1 := Lib.hid hz1
  have HZ2 := Lib.hid hz2
  have HA := Lib.hid h
  have n0 : (0 : Int) ≤ (len : Int) := by omega
  have n1 : (len : Int) ≤ 100 := by omega
  clear h hn hi0 hz0 hz1 hz2
  go_enter Tryd.func9, Tryd.ntmps9
  go_wp2_with fail
  go_loopw [3, 5, 8] (fun s _ i wr => ∃ (k : Nat) (Az : Option Addr) (cz : Nat), k ≤ len ∧ i = .int .i64 (k : Int) ∧ s = .slice Az k cz ∧ Hid (wr.ownsRow w.heap.size 61 5 (.slice Az k cz) k (lv (lsn g k)) ∧ Below w.heap.size w wr)) (fun _ _ i _ => len + 1 - (intOf i).toNat)
  case atStart => exact ⟨0, none, 0, Nat.zero_le _, rfl, rfl, Lib.hid ⟨World.ownsRow_nil _ _ _ _, Below.refl _ _⟩⟩
  case round =>
    obtain ⟨k, Az, cz, hk, rfl, rfl, HS⟩ := hrel
    have k0 : (0 : Int) ≤ (k : Int) := by omega
    by_cases hkn : k < len
    · have k1 : (k : Int) < (len : Int) := by omega
      obtain ⟨ad, rfl, hab, hcs⟩ := (HA.out.below HS.out.2) (by omega)
      have hc := hcs k hkn
      have HSN := Lib.hid (lsn_succ g k)
      generalize g k = x at hc HSN
      clear hcs hab
      have q0' : wr.cell? (ad.add (k * 5)) = some (.int .i64 x.o) := hc 0 _ rfl
      have q1' : wr.cell? ⟨(ad.add (k * 5)).block, (ad.add (k * 5)).off + 1, none⟩ = some (.int .i64 x.q) := by rw [← addp _ 1 (by decide) (World.cell?_spot q0'), add_of_add]; exact hc 1 _ rfl
      have q2' : wr.cell? ⟨(ad.add (k * 5)).block, (ad.add (k * 5)).off + 2, none⟩ = some (.int .i64 x.w) := by rw [← addp _ 2 (by decide) (World.cell?_spot q0'), add_of_add]; exact hc 2 _ rfl
      have q3' : wr.cell? ⟨(ad.add (k * 5)).block, (ad.add (k * 5)).off + 3, none⟩ = some (.int .i64 x.n) := by rw [← addp _ 3 (by decide) (World.cell?_spot q0'), add_of_add]; exact hc 3 _ rfl
      have q4' : wr.cell? ⟨(ad.add (k * 5)).block, (ad.add (k * 5)).off + 4, none⟩ = some (.int .i64 x.p) := by rw [← addp _ 4 (by decide) (World.cell?_spot q0'), add_of_add]; exact hc 4 _ rfl
      clear hc
      have hbw : Below w.heap.size w (wr.alloc (.cells (List.toArray [.int .i64 x.o, .int .i64 x.q, .int .i64 x.w, .int .i64 x.n, .int .i64 x.p]) 42)) := HS.out.2.alloc HS.out.2.size _
      have HBW := Lib.hid hbw
      have HO1 := Lib.hid (World.ownsRow.alloc (World.ownsRow.alloc HS.out.1 (.cells (List.toArray [.int .i64 x.o, .int .i64 x.q, .int .i64 x.w, .int .i64 x.n, .int .i64 x.p]) 42)) (Obj.cells (List.toArray [.int .i64 x.o, .int .i64 x.q, .int .i64 x.w, .int .i64 x.n, .int .i64 x.p]) 61))
      have HRD := Lib.hid (reads_newN (wr.alloc (.cells (List.toArray [.int .i64 x.o, .int .i64 x.q, .int .i64 x.w, .int .i64 x.n, .int .i64 x.p]) 42)) 1 5 (lc x) 61 rfl)
      have NV := Lib.hid (lc_one x)
      have N1 := Lib.hid (show k + 1 ≤ maxLen from by unfold maxLen; omega)
      have N2 := Lib.hid (show (k + 1) * 40 ≤ 140737488355328 from by omega)
      have N3 := Lib.hid (show w.heap.size ≤ ((wr.alloc (.cells (List.toArray [.int .i64 x.o, .int .i64 x.q, .int .i64 x.w, .int .i64 x.n, .int .i64 x.p]) 42)).alloc (Obj.cells (List.toArray [.int .i64 x.o, .int .i64 x.q, .int .i64 x.w, .int .i64 x.n, .int .i64 x.p]) 61)).heap.size from by have := hbw.size; rw [World.size_alloc]; omega)
      clear hbw
      go_wp2_with (at_builtin; refine wpList_append_any _ rfl (.tmp 12) (.tmp 14) 46 rfl w.heap.size 61 i0 (Value.agg #[.int .i64 0, .int .i64 0, .int .i64 0, .int .i64 0, .int .i64 0]) 5 40 Tryd.underlying46 HI0.out HZ0.out HZ1.out HZ2.out rfl (by decide) _ k (lv (lsn g k)) rfl HO1.out _ (some ⟨wr.heap.size + 1, 0, none⟩) 1 1 _ rfl (by rw [← World.size_alloc wr (.cells (List.toArray [.int .i64 x.o, .int .i64 x.q, .int .i64 x.w, .int .i64 x.n, .int .i64 x.p]) 42)]; exact HRD.out) NV.out N1.out N2.out N3.out ?_; intro v3 w8 hown8 hgrow8 hblk8; have HP := Lib.hid (And.intro hown8 hgrow8); clear hown8 hgrow8 hblk8)
      go_roundw
      case rel =>
        obtain ⟨A3, c3, hv⟩ := oshape HP.out.1
        refine ⟨k + 1, A3, c3, by omega, by go_num, hv, Lib.hid ⟨?_, ?_⟩⟩
        · rw [HSN.out, lv_snoc, ← hv]
          exact HP.out.1
        · exact Below.grown (HBW.out.alloc HBW.out.size _) HP.out.2 N3.out (fun j e => (HS.out.1.lt j e).1)
      case measure => simp [intOf]; omega
    · obtain rfl : k = len := by omega
      have hd : decide ((k : Int) < (k : Int)) = false := decide_eq_false (by omega)
      go_wp2_with fail
      go_ret
      exact ⟨_, _, rfl, HS.out.1, HS.out.2⟩
end Go.Proofs.YtmddgaokdlhegaaDoor

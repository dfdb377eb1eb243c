/-
  Rows of rows of events.
-/
import Derived.Test.YtdlgpbmeeiakdaaRows
import Derived.Test.YtdlgpbmeeiakdaaKit
import Derived.Test.YtdlgpbmeeiakdaaApp
import Derived.Test.YtdlgpbmeeiakdaaEv
import Derived.Test.YtdlgpbmeeiakdaaEvP
import Derived.Test.YtdlgpbmeeiakdaaEvQ
import Derived.Test.YtdlgpbmeeiakdaaEvR
import Derived.Test.YtdlgpbmeeiakdaaQuiet
import Derived.Test.YtdlgpbmeeiakdaaPlA
import Derived.Test.YtdlgpbmeeiakdaaPlB
import Derived.Test.YtdlgpbmeeiakdaaPlF
import Derived.Test.YtdlgpbmeeiakdaaPlI
import Derived.WalkKit
import Derived.ProofKit
import Derived.OpenShut
import Derived.ShutString
import Derived.Below
import Derived.Outline
import Derived.WalkLawsBesides
import Derived.WalkSpells
import Derived.Handy
import Derived.Deep.QuietTactic
import Derived.BigQuiet
import Derived.RegionTactic
import Derived.ChangeAlike
import Derived.Lib.Hide
import Derived.Laws.Rows
import Derived.Laws.Tables
import Derived.Laws.CopyOwn
import Derived.Laws.MakeOwn
import Derived.Laws.Entries
import Derived.Laws.OwnMore
import Derived.Deep.WholeRow
import Derived.Deep.LoopGhost
import Derived.Deep.AppendLies
import Derived.Deep.Draws
import Derived.Maps.AppendAt
import Derived.OwnWalk
import Derived.Deep.RegionHeld3
import Derived.Deep.Cut
import Derived.Deep.CutRange
import Derived.Deep.DeepCutAuto
import Derived.Deep.CutBlock
import Derived.Lib.SliceRun
import Derived.IntWalk
namespace Go.Proofs.Ytdlgpbmeeiakdaa
open Go.ChangeShapes Go.WideShapes Go.ChangeAt Go.RowKit
/-- A row of events: where it lies, and the numbers that it is of. -/
structure Rw where
  A : Option Addr
  cap : Nat
  L : List Int
def Rw.v (r : Rw) : Value := .slice r.A r.L.length r.cap
theorem rv_one (rs : List Rw) : ∀ u ∈ rs.map Rw.v, u.oneCell' = true := by
  intro u hu
  obtain ⟨r, _, rfl⟩ := List.mem_map.1 hu
  rfl
/-- The closure: has a row no event at the captured number? -/
theorem clo_is (r : Rw) (ib : Nat) (i : Nat) (w : World) (hi : w.cell? ⟨ib, 0, none⟩ = some (.int .i64 (i : Int))) : Calls Try.prog 51 #[r.v, .pointer (some ⟨ib, 0, none⟩)] w fun e w' => e = .returned (.bool (decide (r.L.length ≤ i))) ∧ Below w.heap.size w w' := by
  have hd : (decide ((r.L.length : Int) ≤ (i : Int))) = decide (r.L.length ≤ i) := by simp
  unfold Rw.v
  obtain ⟨A, cap, L⟩ := r
  dsimp only at hd ⊢
  go_enter Try.func51, Try.ntmps51
  go_wp2
  go_ret
  refine ⟨?_, by go_grown⟩
  rw [← hd]
  rfl
theorem infoR : (Try.prog.info? 38).map (fun i => (i.zero, i.size, i.bytes)) = some (some (.slice none 0 0), 1, 24) := by kernel_rfl
set_option maxRecDepth 100000 in
set_option maxHeartbeats 2000000 in
theorem clone_some (ad : Addr) (cap : Nat) (rs : List Rw) (w : World) (hr : Reads w w.heap.size 1 (some ad) rs.length (rs.map Rw.v)) (hl : rs.length ≤ 1000) : Calls Try.prog 49 #[.slice (some ad) rs.length cap] w fun e w' => ∃ v, e = .returned v ∧ w'.ownsRow w.heap.size 38 1 v rs.length (rs.map Rw.v) ∧ Below w.heap.size w w' := by
  obtain ⟨i0, hi, hz0, hz1, hz2⟩ := info_parts infoR
  have HI := Lib.hid hi
  have HZ0 := Lib.hid hz0
  have HZ1 := Lib.hid hz1
  have HZ2 := Lib.hid hz2
  have HR := Lib.hid (hr.alloc (Nat.le_refl _) (.cells #[] 38))
  have HO := Lib.hid (World.ownsRow_lit (base := w.heap.size) (e := 38) (size := 1) w #[] 0 (Nat.le_refl _) (by unfold maxLen; omega) rfl)
  have NV := Lib.hid (rv_one rs)
  have N1 := Lib.hid (show 0 + rs.length ≤ maxLen from by unfold maxLen; omega)
  have N2 := Lib.hid (show (0 + rs.length) * 24 ≤ 140737488355328 from by omega)
  have N3 := Lib.hid (show w.heap.size ≤ (w.alloc (.cells #[] 38)).heap.size from by simp)
  have hE : ∀ W, (binOp .eql 46 (.slice (some ad) rs.length cap) (.slice none 0 0)).run Try.prog W = .ok (.bool false) W := fun W => Lib.run_eql_slice_nil W 46 38 (some ad) rs.length cap 0 0 Try.underlying46
  clear hi hz0 hz1 hz2 hr
  go_enter Try.func49, Try.ntmps49
  go_wp2_with (at_builtin; refine wpList_append_any _ rfl (.tmp 5) (.tmp 6) 46 rfl w.heap.size 38 i0 (.slice none 0 0) 1 24 Try.underlying46 HI.out HZ0.out HZ1.out HZ2.out rfl (by decide) _ 0 _ rfl HO.out _ (some ad) rs.length cap _ rfl HR.out NV.out N1.out N2.out N3.out ?_; intro v3 w3 hown3 hgrow3 hblk3; have HP := Lib.hid (And.intro hown3 hgrow3); clear hown3 hgrow3 hblk3)
  go_ret
  exact ⟨_, rfl, by have h := HP.out.1; rw [Nat.zero_add] at h; exact h, Below.grown ((Below.refl _ _).alloc (Nat.le_refl _) _) HP.out.2 (by simp) (fun g e => (HO.out.lt g e).1)⟩
set_option maxRecDepth 100000 in
theorem clone_none (cap : Nat) (w : World) : Calls Try.prog 49 #[.slice none 0 cap] w fun e w' => e = .returned (.slice none 0 0) ∧ Below w.heap.size w w' := by
  have hE : ∀ W, (binOp .eql 46 (.slice none 0 cap) (.slice none 0 0)).run Try.prog W = .ok (.bool true) W := fun W => Lib.run_eql_slice_nil W 46 38 none 0 cap 0 0 Try.underlying46
  go_enter Try.func49, Try.ntmps49
  go_wp2_with fail
  go_ret
  exact ⟨rfl, by go_grown⟩
end Go.Proofs.Ytdlgpbmeeiakdaa

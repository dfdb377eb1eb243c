/-
  Rows of events handed on.
-/
import Derived.Test.YtfdjbhlpkfbgnaaRows
import Derived.Test.YtfdjbhlpkfbgnaaKit
import Derived.Test.YtfdjbhlpkfbgnaaApp
import Derived.Test.YtfdjbhlpkfbgnaaQuiet
import Derived.Test.YtfdjbhlpkfbgnaaShM
import Derived.Test.YtfdjbhlpkfbgnaaShO
import Derived.Test.YtfdjbhlpkfbgnaaShB
import Derived.WalkKit
import Derived.ProofKit
import Derived.OpenShut
import Derived.ShutString
import Derived.Below
import Derived.Outline
import Derived.WalkLawsBesides
import Derived.WalkSpells
import Derived.Handy
import Derived.Deep.QuietTactic
import Derived.BigQuiet
import Derived.RegionTactic
import Derived.ChangeAlike
import Derived.Lib.Hide
import Derived.Laws.Rows
import Derived.Laws.Tables
import Derived.Laws.CopyOwn
import Derived.Laws.MakeOwn
import Derived.Laws.Entries
import Derived.Laws.OwnMore
import Derived.Deep.WholeRow
import Derived.Deep.LoopGhost
import Derived.Deep.AppendLies
import Derived.Deep.Draws
import Derived.Maps.AppendAt
import Derived.OwnWalk
import Derived.Deep.RegionHeld3
import Derived.Deep.Cut
import Derived.Deep.CutRange
import Derived.Deep.DeepCutAuto
import Derived.Deep.CutBlock
import Derived.Lib.SliceRun
import Derived.IntWalk
namespace Go.Proofs.Ytfdjbhlpkfbgnaa
open Go.ChangeShapes Go.WideShapes Go.ChangeAt Go.RowKit
theorem infoE : (Try.prog.info? 38).map (fun i => (i.zero, i.size, i.bytes)) = some (some (.agg #[.int .i64 0, .int .i64 0, .int .i64 0, .int .i64 0, .int .i64 0, .int .i64 0, .int .i64 0, .int .i64 0, .int .i64 0, .int .i64 0, .int .i64 0, .int .i64 0]), 12, 96) := by kernel_rfl
set_option maxRecDepth 100000 in
set_option maxHeartbeats 1000000 in
theorem clone_some (ad : Addr) (cap : Nat) (os : List Evn) (w : World) (hr : Reads w w.heap.size 12 (some ad) os.length (nv os)) (hl : os.length ≤ 1000) : Calls Try.prog 20 #[.slice (some ad) os.length cap] w fun e w' => ∃ v, e = .returned v ∧ w'.ownsRow w.heap.size 38 12 v os.length (nv os) ∧ Below w.heap.size w w' := by
  obtain ⟨i0, hi, hz0, hz1, hz2⟩ := info_parts infoE
  have HI := Lib.hid hi
  have HZ0 := Lib.hid hz0
  have HZ1 := Lib.hid hz1
  have HZ2 := Lib.hid hz2
  have HR := Lib.hid (hr.alloc (Nat.le_refl _) (.cells #[] 38))
  have HO := Lib.hid (World.ownsRow_lit (base := w.heap.size) (e := 38) (size := 12) w #[] 0 (Nat.le_refl _) (by unfold maxLen; omega) rfl)
  have NV := Lib.hid (nv_one os)
  have N1 := Lib.hid (show 0 + os.length ≤ maxLen from by unfold maxLen; omega)
  have N2 := Lib.hid (show (0 + os.length) * 96 ≤ 140737488355328 from by omega)
  have N3 := Lib.hid (show w.heap.size ≤ (w.alloc (.cells #[] 38)).heap.size from by simp)
  have hE : ∀ W, (binOp .eql 24 (.slice (some ad) os.length cap) (.slice none 0 0)).run Try.prog W = .ok (.bool false) W := fun W => Lib.run_eql_slice_nil W 24 38 (some ad) os.length cap 0 0 Try.underlying24
  clear hi hz0 hz1 hz2 hr
  go_enter Try.func20, Try.ntmps20
  go_wp2_with (at_builtin; refine wpList_append_any _ rfl (.tmp 5) (.tmp 6) 24 rfl w.heap.size 38 i0 (Value.agg #[.int .i64 0, .int .i64 0, .int .i64 0, .int .i64 0, .int .i64 0, .int .i64 0, .int .i64 0, .int .i64 0, .int .i64 0, .int .i64 0, .int .i64 0, .int .i64 0]) 12 96 Try.underlying24 HI.out HZ0.out HZ1.out HZ2.out rfl (by decide) _ 0 _ rfl HO.out _ (some ad) os.length cap _ rfl HR.out NV.out N1.out N2.out N3.out ?_; intro v3 w3 hown3 hgrow3 hblk3; have HP := Lib.hid (And.intro hown3 hgrow3); clear hown3 hgrow3 hblk3)
  go_ret
  exact ⟨_, rfl, by have h := HP.out.1; rw [Nat.zero_add] at h; exact h, Below.grown ((Below.refl _ _).alloc (Nat.le_refl _) _) HP.out.2 (by simp) (fun g e => (HO.out.lt g e).1)⟩
set_option maxRecDepth 100000 in
theorem clone_none (cap : Nat) (w : World) : Calls Try.prog 20 #[.slice none 0 cap] w fun e w' => e = .returned (.slice none 0 0) ∧ Below w.heap.size w w' := by
  have hE : ∀ W, (binOp .eql 24 (.slice none 0 cap) (.slice none 0 0)).run Try.prog W = .ok (.bool true) W := fun W => Lib.run_eql_slice_nil W 24 38 none 0 cap 0 0 Try.underlying24
  go_enter Try.func20, Try.ntmps20
  go_wp2_with fail
  go_ret
  exact ⟨rfl, by go_grown⟩
theorem clone_is (base cap : Nat) (A : Option Addr) (os : List Evn) (w : World) (h : w.ownsRow base 38 12 (.slice A os.length cap) os.length (nv os)) (hl : os.length ≤ 1000) : Calls Try.prog 20 #[.slice A os.length cap] w fun e w' => ∃ v, e = .returned v ∧ w'.ownsRow w.heap.size 38 12 v os.length (nv os) ∧ Below w.heap.size w w' := by
  rcases h.2 with ⟨hv, h0⟩ | ⟨g, cp, cur, hv, _⟩
  · injection hv with e1 e2 e3
    subst e1
    have hn : os = [] := List.eq_nil_of_length_eq_zero h0
    subst hn
    exact (clone_none cap w).mono fun e w' hh => ⟨_, hh.1, ⟨rfl, .inl ⟨rfl, rfl⟩⟩, hh.2⟩
  · injection hv with e1 e2 e3
    subst e1
    exact clone_some ⟨g, 0, none⟩ cap os w (Reads.of_own h) hl
theorem Reads.takeE {w : World} {B n i : Nat} {A : Option Addr} {xs : List Value} (h : Reads w B 12 A n xs) (hi : i ≤ n) : Reads w B 12 A i (xs.take (i * 12)) := by
  obtain ⟨hl, hr⟩ := h
  refine ⟨by rw [List.length_take, hl]; exact Nat.min_eq_left (Nat.mul_le_mul_right 12 hi), fun h0 => ?_⟩
  obtain ⟨ad', e, hb, hc⟩ := hr (by omega)
  refine ⟨ad', e, hb, fun j u hu => ?_⟩
  rw [List.getElem?_take] at hu
  split at hu
  · exact hc _ _ hu
  · cases hu
theorem Reads.dropE {w : World} {B n i : Nat} {ad : Addr} {xs : List Value} (h : Reads w B 12 (some ad) n xs) (hi : i ≤ n) : Reads w B 12 (some (ad.add (i * 12))) (n - i) (xs.drop (i * 12)) := by
  obtain ⟨hl, hr⟩ := h
  refine ⟨by rw [List.length_drop, hl, Nat.sub_mul], fun h0 => ?_⟩
  obtain ⟨ad', e, hb, hc⟩ := hr (by omega)
  obtain rfl := Option.some.inj e
  refine ⟨_, rfl, by rw [block_of_add]; exact hb, fun j u hu => ?_⟩
  rw [List.getElem?_drop] at hu
  rw [add_of_add]
  exact hc _ _ hu
end Go.Proofs.Ytfdjbhlpkfbgnaa

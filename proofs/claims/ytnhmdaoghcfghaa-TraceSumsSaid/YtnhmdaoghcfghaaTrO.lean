/-
  The abstract pool: new; all orders.
-/
import Derived.Test.YtnhmdaoghcfghaaRows
import Derived.Test.YtnhmdaoghcfghaaKit
import Derived.Test.YtnhmdaoghcfghaaApp
import Derived.Test.YtnhmdaoghcfghaaQuiet
import Derived.Test.YtnhmdaoghcfghaaTrM
import Derived.Test.YtnhmdaoghcfghaaTrS
import Derived.Test.YtnhmdaoghcfghaaTrF
import Derived.WalkKit
import Derived.ProofKit
import Derived.OpenShut
import Derived.ShutString
import Derived.Below
import Derived.Outline
import Derived.WalkLawsBesides
import Derived.WalkSpells
import Derived.Handy
import Derived.Deep.QuietTactic
import Derived.BigQuiet
import Derived.RegionTactic
import Derived.ChangeAlike
import Derived.Lib.Hide
import Derived.Laws.Rows
import Derived.Laws.Tables
import Derived.Laws.CopyOwn
import Derived.Laws.MakeOwn
import Derived.Laws.Entries
import Derived.Laws.OwnMore
import Derived.Deep.WholeRow
import Derived.Deep.LoopGhost
import Derived.Deep.AppendLies
import Derived.Deep.Draws
import Derived.Maps.AppendAt
import Derived.OwnWalk
import Derived.Deep.RegionHeld3
import Derived.Deep.Cut
import Derived.Deep.CutRange
import Derived.Deep.DeepCutAuto
import Derived.Deep.CutBlock
import Derived.Lib.SliceRun
import Derived.IntWalk
namespace Go.Proofs.Ytnhmdaoghcfghaa
open Go.ChangeShapes Go.WideShapes Go.ChangeAt Go.RowKit
theorem infoO1 : (Try.prog.info? 44).map (fun i => (i.zero, i.size, i.bytes)) = some (some (.agg #[.int .i64 0, .int .i64 0, .int .i64 0, .int .i64 0, .int .i64 0, .int .i64 0, .int .i64 0, .int .i64 0, .int .i64 0, .int .i64 0, .bool false, .bool false, .int .i64 0]), 13, 96) := by kernel_rfl
theorem oc_one (o : Ord) : ∀ u ∈ oc o, u.oneCell' = true := by
  intro u hu
  unfold oc at hu
  simp only [List.mem_cons, List.not_mem_nil, or_false] at hu
  rcases hu with h | h | h | h | h | h | h | h | h | h | h | h | h <;> (subst h; rfl)
theorem ov_one (os : List Ord) : ∀ u ∈ ov os, u.oneCell' = true := by
  intro u hu
  unfold ov at hu
  obtain ⟨l, hl, h2⟩ := List.mem_flatten.1 hu
  obtain ⟨o, _, rfl⟩ := List.mem_map.1 hl
  exact oc_one o u h2
set_option maxRecDepth 100000 in
set_option maxHeartbeats 2000000 in
theorem clone_some (ad : Addr) (cap : Nat) (os : List Ord) (w : World) (hr : Reads w w.heap.size 13 (some ad) os.length (ov os)) (hl : os.length ≤ 1000) : Calls Try.prog 18 #[.slice (some ad) os.length cap] w fun e w' => ∃ v, e = .returned v ∧ w'.ownsRow w.heap.size 44 13 v os.length (ov os) ∧ Below w.heap.size w w' := by
  obtain ⟨i0, hi, hz0, hz1, hz2⟩ := info_parts infoO1
  have HI := Lib.hid hi
  have HZ0 := Lib.hid hz0
  have HZ1 := Lib.hid hz1
  have HZ2 := Lib.hid hz2
  have HR := Lib.hid (hr.alloc (Nat.le_refl _) (.cells #[] 44))
  have HO := Lib.hid (World.ownsRow_lit (base := w.heap.size) (e := 44) (size := 13) w #[] 0 (Nat.le_refl _) (by unfold maxLen; omega) rfl)
  have NV := Lib.hid (ov_one os)
  have N1 := Lib.hid (show 0 + os.length ≤ maxLen from by unfold maxLen; omega)
  have N2 := Lib.hid (show (0 + os.length) * 96 ≤ 140737488355328 from by omega)
  have N3 := Lib.hid (show w.heap.size ≤ (w.alloc (.cells #[] 44)).heap.size from by simp)
  have hE : ∀ W, (binOp .eql 35 (.slice (some ad) os.length cap) (.slice none 0 0)).run Try.prog W = .ok (.bool false) W := fun W => Lib.run_eql_slice_nil W 35 44 (some ad) os.length cap 0 0 Try.underlying35
  clear hi hz0 hz1 hz2 hr
  go_enter Try.func18, Try.ntmps18
  go_wp2_with (at_builtin; refine wpList_append_any _ rfl (.tmp 5) (.tmp 6) 35 rfl w.heap.size 44 i0 (Value.agg #[.int .i64 0, .int .i64 0, .int .i64 0, .int .i64 0, .int .i64 0, .int .i64 0, .int .i64 0, .int .i64 0, .int .i64 0, .int .i64 0, .bool false, .bool false, .int .i64 0]) 13 96 Try.underlying35 HI.out HZ0.out HZ1.out HZ2.out rfl (by decide) _ 0 _ rfl HO.out _ (some ad) os.length cap _ rfl HR.out NV.out N1.out N2.out N3.out ?_; intro v3 w3 hown3 hgrow3 hblk3; have HP := Lib.hid (And.intro hown3 hgrow3); clear hown3 hgrow3 hblk3)
  go_ret
  exact ⟨_, rfl, by have h := HP.out.1; rw [Nat.zero_add] at h; exact h, Below.grown ((Below.refl _ _).alloc (Nat.le_refl _) _) HP.out.2 (by simp) (fun g e => (HO.out.lt g e).1)⟩
set_option maxRecDepth 100000 in
theorem clone_none (cap : Nat) (w : World) : Calls Try.prog 18 #[.slice none 0 cap] w fun e w' => e = .returned (.slice none 0 0) ∧ Below w.heap.size w w' := by
  have hE : ∀ W, (binOp .eql 35 (.slice none 0 cap) (.slice none 0 0)).run Try.prog W = .ok (.bool true) W := fun W => Lib.run_eql_slice_nil W 35 44 none 0 cap 0 0 Try.underlying35
  go_enter Try.func18, Try.ntmps18
  go_wp2_with fail
  go_ret
  exact ⟨rfl, by go_grown⟩
theorem clone_is (base cap : Nat) (A : Option Addr) (os : List Ord) (w : World) (h : w.ownsRow base 44 13 (.slice A os.length cap) os.length (ov os)) (hl : os.length ≤ 1000) : Calls Try.prog 18 #[.slice A os.length cap] w fun e w' => ∃ v, e = .returned v ∧ w'.ownsRow w.heap.size 44 13 v os.length (ov os) ∧ Below w.heap.size w w' := by
  rcases h.2 with ⟨hv, h0⟩ | ⟨g, cp, cur, hv, _⟩
  · injection hv with e1 e2 e3
    subst e1
    have hn : os = [] := List.eq_nil_of_length_eq_zero h0
    subst hn
    exact (clone_none cap w).mono fun e w' hh => ⟨_, hh.1, ⟨rfl, .inl ⟨rfl, rfl⟩⟩, hh.2⟩
  · injection hv with e1 e2 e3
    subst e1
    exact clone_some ⟨g, 0, none⟩ cap os w (Reads.of_own h) hl
set_option maxHeartbeats 1000000 in
theorem orders_is (Fx : Nat → Option Obj → Prop) (w wr : World) (B K : Nat) (p c n b r f g now : Int) (v : Value) (os : List Ord) (h : MS Fx w wr B K p c n b r f g v os now) (hl : os.length ≤ 1000) : Calls Try.prog 11 #[.pointer (some ⟨B, 0, none⟩)] wr fun e w' => ∃ v', e = .returned v' ∧ w'.ownsRow wr.heap.size 44 13 v' os.length (ov os) ∧ Below wr.heap.size wr w' := by
  obtain ⟨A, cp, rfl⟩ := own_shape h.row
  have b7 := h.blk.cell 7 _ rfl
  have HC := Lib.hid (clone_is K cp A os wr h.row hl)
  clear h
  go_enter Try.func11, Try.ntmps11
  go_wp2_with fail
  refine HC.out.mono ?_
  rintro e w2 ⟨v', rfl, ho, hb⟩
  obtain ⟨A2, c2, rfl⟩ := own_shape ho
  have HO := Lib.hid (And.intro ho hb)
  clear ho hb
  go_wp2_with fail
  go_ret
  exact ⟨_, rfl, HO.out.1, HO.out.2⟩
set_option maxHeartbeats 1000000 in
theorem new_is (Fx : Nat → Option Obj → Prop) (p c n b r f g : Int) (w : World) (hF : ∀ (k : Nat) (o : Option Obj), Fx k o → w.heap[k]? = o ∧ k < w.heap.size) : Calls Try.prog 8 #[.agg #[.int .i64 p, .int .i64 c, .int .i64 n, .int .i64 b, .int .i64 r, .int .i64 f, .int .i64 g]] w fun e w' => e = .returned (.pointer (some ⟨w.heap.size + 1, 0, none⟩)) ∧ MS Fx w w' (w.heap.size + 1) (w.heap.size + 2) p c n b r f g (.slice none 0 0) [] 0 := by
  go_enter Try.func8, Try.ntmps8
  go_wp2_with fail
  go_ret
  refine ⟨rfl, ?_⟩
  have s1 : (w.alloc (.cells (List.toArray [.int .i64 p, .int .i64 c, .int .i64 n, .int .i64 b, .int .i64 r, .int .i64 f, .int .i64 g]) 26)).heap.size = w.heap.size + 1 := World.size_alloc ..
  have g1 : Below w.heap.size w (w.alloc (.cells (List.toArray [.int .i64 p, .int .i64 c, .int .i64 n, .int .i64 b, .int .i64 r, .int .i64 f, .int .i64 g]) 26)) := by go_grown
  generalize w.alloc (.cells (List.toArray [.int .i64 p, .int .i64 c, .int .i64 n, .int .i64 b, .int .i64 r, .int .i64 f, .int .i64 g]) 26) = w1 at *
  have b1 := Bl.new w1 [.int .i64 p, .int .i64 c, .int .i64 n, .int .i64 b, .int .i64 r, .int .i64 f, .int .i64 g, .slice none 0 0, .int .i64 0] 61
  rw [s1] at b1
  have g2 : Below w1.heap.size w1 (w1.alloc (.cells (List.toArray [.int .i64 p, .int .i64 c, .int .i64 n, .int .i64 b, .int .i64 r, .int .i64 f, .int .i64 g, .slice none 0 0, .int .i64 0]) 61)) := by go_grown
  exact ⟨b1, ⟨rfl, .inl ⟨rfl, rfl⟩⟩, Below.step g1 g2, Nat.le_succ _, Nat.lt_succ_self _, Nat.le_of_eq (by rw [World.size_alloc, s1]), fun k o hk => by
    obtain ⟨a, d⟩ := hF k o hk
    refine ⟨(g2.block k (by omega)).trans ((g1.block k d).trans a), by omega, (by intro e; cases e), by rw [World.size_alloc]; omega⟩⟩
end Go.Proofs.Ytnhmdaoghcfghaa

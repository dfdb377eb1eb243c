/-
  Contracts of tick.Tape: Put onto a row of its own, Take, Left, Taken.
-/
import Derived.Test.YtdaacboalleidaaRows
import Derived.WalkKit
import Derived.ProofKit
import Derived.OpenShut
import Derived.ShutString
import Derived.Below
import Derived.Outline
import Derived.WalkLawsBesides
import Derived.WalkSpells
import Derived.Handy
import Derived.Deep.QuietTactic
import Derived.BigQuiet
import Derived.RegionTactic
import Derived.ChangeAlike
import Derived.Lib.Hide
import Derived.Test.YtdaacboalleidaaKit
import Derived.Test.YtdaacboalleidaaTick
import Derived.Test.YtdaacboalleidaaApp
namespace Go.Proofs.Ytdaacboalleidaa
open Go.ChangeShapes Go.WideShapes Go.ChangeAt Go.RowKit

theorem tinfo3 : (Try.prog.info? 3).map (fun i => (i.zero, i.size, i.bytes)) = some (some (.int .i64 0), 1, 8) := by kernel_rfl
theorem ints_one (xs : List Int) : ∀ u ∈ xs.map (Value.int .i64), u.oneCell' = true := by
  intro u hu
  obtain ⟨x, _, rfl⟩ := List.mem_map.1 hu
  rfl

theorem own_shape {w : World} {base n : Nat} {v : Value} {xs : List Value} (h : w.ownsRow base 3 1 v n xs) : ∃ A c, v = .slice A n c := by
  rcases h.2 with ⟨rfl, h0⟩ | ⟨g, cap, cur, rfl, _⟩
  · rw [h0]; exact ⟨_, _, rfl⟩
  · exact ⟨_, _, rfl⟩

/-- Behind a Put: the tape's first word holds a row of its own with more in it; elsewhere only that row's block and new ones have turned. -/
def Put (w : World) (c base n m : Nat) (v : Value) (xs ys : List Int) (e : Ending) (w' : World) : Prop :=
  ∃ v' w1, e = .returned (.tuple #[]) ∧ w' = w1.setCell ⟨c, 0, none⟩ v' ∧ w1.ownsRow base 3 1 v' (n + m) (xs.map (Value.int .i64) ++ ys.map (Value.int .i64)) ∧ w.grownBy w1 v.ownBlock ∧ (v'.ownBlock = v.ownBlock ∨ v'.ownBlock = some w.heap.size)

set_option maxHeartbeats 1000000 in
theorem put16 (c base n m cap : Nat) (v : Value) (A : Option Addr) (xs ys : List Int) (w : World) (hcb : c < base) (hcw : base ≤ w.heap.size)
    (hc : w.cell? ⟨c, 0, none⟩ = some v) (hf : w.frozen? ⟨c, 0, none⟩ = false) (ho : w.ownsRow base 3 1 v n (xs.map (Value.int .i64)))
    (hr : Reads w w.heap.size 1 A m (ys.map (Value.int .i64))) (hb : n + m ≤ 1000000) :
    Calls Try.prog 16 #[.pointer (some ⟨c, 0, none⟩), .slice A m cap] w (Put w c base n m v xs ys) := by
  obtain ⟨i0, hi, hz0, hz1, hz2⟩ := info_parts tinfo3
  have n1 : n + m ≤ maxLen := by unfold maxLen; omega
  have n2 : (n + m) * 8 ≤ 140737488355328 := by omega
  have HI := Lib.hid hi
  have HZ0 := Lib.hid hz0
  have HZ1 := Lib.hid hz1
  have HZ2 := Lib.hid hz2
  have HO := Lib.hid ho
  have HR := Lib.hid hr
  have N1 := Lib.hid n1
  have N2 := Lib.hid n2
  have N3 := Lib.hid hcw
  have hfar : ∀ w1 : World, w.grownBy w1 v.ownBlock → w1.cell? ⟨c, 0, none⟩ = some v ∧ w1.frozen? ⟨c, 0, none⟩ = false := fun w1 hg => by
    have hbk := hg.block c (by omega) (fun e => by have := (HO.out.lt c e.symm).1; omega)
    exact ⟨(World.cell?_of_block (w := w) (a := ⟨c, 0, none⟩) hbk).trans hc, (World.frozen?_of_block (w := w) (a := ⟨c, 0, none⟩) hbk).trans hf⟩
  have HFAR := Lib.hid hfar
  clear hi hz0 hz1 hz2 ho hr n1 n2 hfar hcw
  go_enter Try.func16, Try.ntmps16
  go_wp2_with (at_builtin; refine wpList_append_any _ rfl (.tmp 10) (.tmp 11) 22 rfl base 3 i0 (.int .i64 0) 1 8 Try.underlying22 HI.out HZ0.out HZ1.out HZ2.out rfl (by decide) _ n (xs.map (Value.int .i64)) rfl HO.out _ A m cap (ys.map (Value.int .i64)) rfl HR.out (ints_one ys) N1.out N2.out N3.out ?_; intro v3 w3 hown3 hgrow3 hblk3; have HP := Lib.hid (show w3.ownsRow base 3 1 v3 (n + m) (xs.map (Value.int .i64) ++ ys.map (Value.int .i64)) ∧ w.grownBy w3 v.ownBlock ∧ (v3.ownBlock = v.ownBlock ∨ v3.ownBlock = some w.heap.size) from ⟨hown3, hgrow3, hblk3⟩); obtain ⟨hc3, hf3⟩ := HFAR.out _ hgrow3; obtain ⟨A3, c3, hv3⟩ := own_shape hown3; rw [hv3]; have HV := Lib.hid hv3; clear hv3; clear hown3 hgrow3 hblk3)
  go_end0
  exact ⟨_, w3, rfl, rfl, by rw [← HV.out]; exact HP.out.1, HP.out.2.1, by rw [← HV.out]; exact HP.out.2.2⟩

/-- A tape from which numbers are taken. -/
theorem take_none (c : Nat) (A : Option Addr) (cap : Nat) (w : World) (hc : w.cell? ⟨c, 0, none⟩ = some (.slice A 0 cap)) :
    Calls Try.prog 17 #[.pointer (some ⟨c, 0, none⟩)] w fun e w' => e = .returned (.tuple #[.int .i64 0, .bool false]) ∧ w = w' := by
  rcases A with _ | a
  · go_enter Try.func17, Try.ntmps17
    go_wp2
    go_ret2
    exact ⟨rfl, rfl⟩
  · go_enter Try.func17, Try.ntmps17
    go_wp2
    go_outline
    go_ret2
    exact ⟨rfl, rfl⟩
set_option maxHeartbeats 1000000 in
theorem take_some (c g off n cap : Nat) (x k : Int) (w : World) (hn : 0 < n) (hcap : 1 < cap) (hnc : n ≤ cap) (hcm : cap ≤ 9223372036854775807) (hk : 0 ≤ k) (hk1 : k ≤ 1000000) (hne : g ≠ c)
    (hc : w.cell? ⟨c, 0, none⟩ = some (.slice (some ⟨g, off, none⟩) n cap)) (hf : w.frozen? ⟨c, 0, none⟩ = false) (hc1 : w.cell? ⟨c, 1, none⟩ = some (.int .i64 k)) (hf1 : w.frozen? ⟨c, 1, none⟩ = false)
    (hx : w.cell? ⟨g, off, none⟩ = some (.int .i64 x)) :
    Calls Try.prog 17 #[.pointer (some ⟨c, 0, none⟩)] w fun e w' => e = .returned (.tuple #[.int .i64 x, .bool true]) ∧ (w.setCell ⟨c, 0, none⟩ (.slice (some ⟨g, off + 1, none⟩) (n - 1) (cap - 1))).setCell ⟨c, 1, none⟩ (.int .i64 (k + 1)) = w' := by
  have hl0 : (0 : Int) < (n : Int) := by omega
  have hz : ((n : Int) == 0) = false := by rw [beq_eq_false_iff_ne]; omega
  have hc0 : ¬ cap = 1 := by omega
  go_enter Try.func17, Try.ntmps17
  go_wp2
  go_ret2
  exact ⟨rfl, rfl⟩
set_option maxHeartbeats 1000000 in
theorem take_last (c g off : Nat) (x k : Int) (w : World) (hk : 0 ≤ k) (hk1 : k ≤ 1000000) (hne : g ≠ c)
    (hc : w.cell? ⟨c, 0, none⟩ = some (.slice (some ⟨g, off, none⟩) 1 1)) (hf : w.frozen? ⟨c, 0, none⟩ = false) (hc1 : w.cell? ⟨c, 1, none⟩ = some (.int .i64 k)) (hf1 : w.frozen? ⟨c, 1, none⟩ = false)
    (hx : w.cell? ⟨g, off, none⟩ = some (.int .i64 x)) :
    Calls Try.prog 17 #[.pointer (some ⟨c, 0, none⟩)] w fun e w' => e = .returned (.tuple #[.int .i64 x, .bool true]) ∧ (w.setCell ⟨c, 0, none⟩ (.slice (some ⟨g, off, none⟩) 0 0)).setCell ⟨c, 1, none⟩ (.int .i64 (k + 1)) = w' := by
  go_enter Try.func17, Try.ntmps17
  go_wp2
  go_ret2
  exact ⟨rfl, rfl⟩
theorem left18 (c n cap : Nat) (A : Option Addr) (w : World) (hc : w.cell? ⟨c, 0, none⟩ = some (.slice A n cap)) : Calls Try.prog 18 #[.pointer (some ⟨c, 0, none⟩)] w fun e w' => e = .returned (.int .i64 n) ∧ w = w' := by
  go_enter Try.func18, Try.ntmps18
  go_wp2
  go_ret
  exact ⟨rfl, rfl⟩
theorem taken19 (c : Nat) (k : Int) (w : World) (hc : w.cell? ⟨c, 1, none⟩ = some (.int .i64 k)) : Calls Try.prog 19 #[.pointer (some ⟨c, 0, none⟩)] w fun e w' => e = .returned (.int .i64 k) ∧ w = w' := by
  go_enter Try.func19, Try.ntmps19
  go_wp2
  go_ret
  exact ⟨rfl, rfl⟩
end Go.Proofs.Ytdaacboalleidaa

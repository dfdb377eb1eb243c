/-
  Num of a fault.
-/
import Derived.Test.YtgeognijglahfaaRows
import Derived.WalkKit
import Derived.ProofKit
import Derived.OpenShut
import Derived.ShutString
import Derived.Below
import Derived.Outline
import Derived.WalkLawsBesides
import Derived.WalkSpells
import Derived.Handy
import Derived.Deep.QuietTactic
import Derived.BigQuiet
import Derived.RegionTactic
import Derived.ChangeAlike
import Derived.Lib.Hide
import Derived.Laws.Rows
import Derived.Laws.Tables
import Derived.Laws.CopyOwn
import Derived.Deep.WholeRow
import Derived.Deep.LoopGhost
import Derived.Laws.BitsAllLaws
import Derived.Laws.BitsLemmas
import Derived.IntWalk
import Derived.Test.YtgeognijglahfaaKit
import Derived.Test.YtgeognijglahfaaLay
import Derived.Test.YtgeognijglahfaaAny
import Derived.Test.YtgeognijglahfaaGet
import Derived.Test.YtgeognijglahfaaWithM
import Derived.Test.YtgeognijglahfaaIs
namespace Go.Proofs.Ytgeognijglahfaa
open Go.ChangeShapes Go.WideShapes Go.ChangeAt Go.RowKit
set_option maxHeartbeats 2000000 in
theorem num_fault (pb c : Nat) (h1 : 1 ≤ c) (h2 : c ≤ 29) (w : World) (hp : pb < w.heap.size) (hc : w.cell? ⟨pb, 1, none⟩ = some (.iface 81 (.int .i64 (c : Int)))) :
    Calls Try.prog 12 #[.iface 99 (.pointer (some ⟨pb, 0, none⟩))] w (IsNum w c) := by
  have HC := Lib.hid hc
  clear hc
  go_enter Try.func12, Try.ntmps12
  go_wp2_with fail
  go_loopw [3] (fun i wr => ∃ k : Nat, 1 ≤ k ∧ k ≤ c ∧ i = .int .i64 k ∧ Below w.heap.size w wr) (fun i _ => c + 1 - (intOf i).toNat)
  case atStart => exact ⟨1, by omega, by omega, rfl, Below.refl _ _⟩
  case round =>
    obtain ⟨k, hk0, hk, rfl, hB⟩ := hrel
    have HCK := Lib.hid ((hB.cell (p := ⟨pb, 1, none⟩) hp).trans HC.out)
    by_cases hkc : k = c
    · subst hkc
      go_wp2_with fail
      refine (is_fault_same pb _ _ HCK.out).mono ?_
      rintro e w1 ⟨rfl, hb1⟩
      have hB1 := Below.step hB hb1
      clear hb1
      go_wp2
      go_ret
      exact ⟨rfl, hB1⟩
    · have hlt : k < c := by omega
      clear hkc
      go_wp2_with fail
      refine (is_fault_other pb (c : Int) (k : Int) (by omega) _ HCK.out).mono ?_
      rintro e w1 ⟨rfl, hb1⟩
      have hB1 := Below.step hB hb1
      clear hb1
      go_wp2_with fail
      go_roundw
      case rel => exact ⟨k + 1, by omega, by omega, by go_num, hB1⟩
      case measure => simp [intOf]; omega
theorem num_at {w0 w : World} {c : Nat} {i : Int} {v : Value} (h1 : 1 ≤ c) (h2 : c ≤ 29) (h : AtF w0 w c i v) : Calls Try.prog 12 #[v] w (IsNum w c) := by
  obtain ⟨pb, rfl, _, hl, _, hc⟩ := h
  exact num_fault pb c h1 h2 w hl hc
end Go.Proofs.Ytgeognijglahfaa

/-
  Which verb a word is; what a side is called.
-/
import Derived.Test.YtnppopeoloigeaaDoorRows
import Derived.Test.YtnppopeoloigeaaDoorKit
import Derived.Test.YtnppopeoloigeaaDoorApp
import Derived.Test.YtnppopeoloigeaaDoorQuiet
import Derived.WalkKit
import Derived.ProofKit
import Derived.OpenShut
import Derived.ShutString
import Derived.Below
import Derived.Outline
import Derived.WalkLawsBesides
import Derived.WalkSpells
import Derived.Handy
import Derived.Deep.QuietTactic
import Derived.BigQuiet
import Derived.RegionTactic
import Derived.ChangeAlike
import Derived.Lib.Hide
import Derived.Laws.Rows
import Derived.Laws.Tables
import Derived.Laws.CopyOwn
import Derived.Laws.MakeOwn
import Derived.Laws.Entries
import Derived.Laws.OwnMore
import Derived.Deep.WholeRow
import Derived.Deep.LoopGhost
import Derived.Deep.AppendLies
import Derived.Deep.Draws
import Derived.Maps.AppendAt
import Derived.OwnWalk
import Derived.Deep.RegionHeld3
import Derived.Deep.Cut
import Derived.Deep.CutRange
import Derived.Deep.DeepCutAuto
import Derived.Deep.CutBlock
import Derived.Lib.SliceRun
import Derived.IntWalk
import Derived.Laws.Strings
import Derived.Test.YtnppopeoloigeaaDoorLnB
namespace Go.Proofs.YtnppopeoloigeaaDoor
open Go.ChangeShapes Go.WideShapes Go.ChangeAt Go.RowKit
/-- The verbs' words. -/
def vb : Nat → ByteArray
  | 1 => ⟨#[115, 117, 98, 109, 105, 116]⟩
  | 2 => ⟨#[99, 97, 110, 99, 101, 108]⟩
  | 3 => ⟨#[112, 111, 108, 108]⟩
  | 4 => ⟨#[118, 105, 101, 119]⟩
  | _ => ⟨#[]⟩
/-- The package's table of verbs stands as it was laid. -/
structure Vb (w : World) : Prop where
  lt : 0 < w.heap.size
  cell : ∀ k : Nat, k ≤ 4 → w.cell? ⟨0, k, none⟩ = some (.string (vb k))
theorem Vb.below {w w' : World} (h : Vb w) (hb : Below w.heap.size w w') : Vb w' :=
  ⟨by have := hb.size; have := h.lt; omega, fun k hk => (hb.cell (p := ⟨0, k, none⟩) h.lt).trans (h.cell k hk)⟩
/-- Which verb a word is. -/
def kd (s : ByteArray) : Int := if (vb 1).toList == s.toList then 1 else if (vb 2).toList == s.toList then 2 else if (vb 3).toList == s.toList then 3 else if (vb 4).toList == s.toList then 4 else 0
theorem kd_hit (s : ByteArray) (k : Nat) (h1 : 1 ≤ k) (h4 : k ≤ 4) (hm : ∀ i, 1 ≤ i → i < k → ((vb i).toList == s.toList) = false) (hk : ((vb k).toList == s.toList) = true) : kd s = (k : Int) := by
  unfold kd
  rcases (show k = 1 ∨ k = 2 ∨ k = 3 ∨ k = 4 by omega) with rfl | rfl | rfl | rfl
  · rw [hk]; rfl
  · rw [hm 1 (by omega) (by omega), hk]; rfl
  · rw [hm 1 (by omega) (by omega), hm 2 (by omega) (by omega), hk]; rfl
  · rw [hm 1 (by omega) (by omega), hm 2 (by omega) (by omega), hm 3 (by omega) (by omega), hk]; rfl
theorem kd_none (s : ByteArray) (hm : ∀ i, 1 ≤ i → i < 5 → ((vb i).toList == s.toList) = false) : kd s = 0 := by
  unfold kd
  rw [hm 1 (by omega) (by omega), hm 2 (by omega) (by omega), hm 3 (by omega) (by omega), hm 4 (by omega) (by omega)]; rfl
set_option maxRecDepth 100000 in
set_option maxHeartbeats 1000000 in
theorem kind_is (s : ByteArray) (w : World) (hv : Vb w) : Calls Tryd.prog 22 #[.string s] w fun e w' => e = .returned (.int .i64 (kd s)) ∧ w = w' := by
  have HV := Lib.hid hv
  clear hv
  go_enter Tryd.func22, Tryd.ntmps22
  go_wp2_with fail
  go_loopw [3] (fun j wr => ∃ k : Nat, 1 ≤ k ∧ k ≤ 5 ∧ j = .int .i64 (k : Int) ∧ Hid (∀ i, 1 ≤ i → i < k → ((vb i).toList == s.toList) = false) ∧ w = wr) (fun j _ => 6 - (intOf j).toNat)
  case atStart => exact ⟨1, Nat.le_refl _, by omega, rfl, Lib.hid (fun i h1 h2 => by omega), rfl⟩
  case round =>
    obtain ⟨k, hk1, hk, rfl, HM, rfl⟩ := hrel
    have k0 : (0 : Int) ≤ (k : Int) := by omega
    by_cases hlt : k ≤ 4
    · have hc := HV.out.cell k hlt
      have q1 : (k : Int) ≤ 4 := by omega
      have q2 : (k : Int) < 5 := by omega
      have Hk := Lib.hid (And.intro hk1 hlt)
      obtain ⟨V, hV⟩ : ∃ V, V = vb k := ⟨_, rfl⟩
      rw [← hV] at hc
      have HVV := Lib.hid hV
      clear hk1 hk hV
      rcases he : (V.toList == s.toList) with _ | _
      · have HE := Lib.hid he
        go_wp2_with fail
        go_roundw
        case rel => exact ⟨k + 1, by omega, by have := Hk.out.2; omega, by go_num, Lib.hid (fun i h1 h2 => by
          rcases Nat.lt_or_ge i k with h | h
          · exact HM.out i h1 h
          · rw [show i = k by omega, ← HVV.out]; exact HE.out), by first | rfl | trivial⟩
        case measure => have := Hk.out.2; simp [intOf]; omega
      · have HE := Lib.hid (kd_hit s k Hk.out.1 Hk.out.2 HM.out (by rw [← HVV.out]; exact he))
        go_wp2_with fail
        go_ret
        exact ⟨by rw [HE.out]; rfl, rfl⟩
    · have hke : k = 5 := by omega
      subst hke
      have HE := Lib.hid (kd_none s HM.out)
      clear HM hk1 hk hlt
      go_wp2_with fail
      go_ret
      exact ⟨by rw [HE.out]; rfl, rfl⟩
/-- What a side is called. -/
def sd : Int → ByteArray := fun x => if x = 0 then ⟨#[98, 117, 121]⟩ else if x = 1 then ⟨#[115, 101, 108, 108]⟩ else ⟨#[63]⟩
theorem name_is (x : Int) (w : World) : Calls Tryd.prog 32 #[.int .i64 x] w fun e w' => e = .returned (.string (sd x)) ∧ w = w' := by
  by_cases h0 : x = 0
  · subst h0
    go_enter Tryd.func32, Tryd.ntmps32
    go_wp2_with fail
    go_ret
    exact ⟨rfl, rfl⟩
  by_cases h1 : x = 1
  · subst h1
    go_enter Tryd.func32, Tryd.ntmps32
    go_wp2_with fail
    go_ret
    exact ⟨rfl, rfl⟩
  · have e : sd x = ⟨#[63]⟩ := by unfold sd; rw [if_neg h0, if_neg h1]
    have HE := Lib.hid e
    have b0 : (x == 0) = false := beq_eq_false_iff_ne.2 h0
    have b1 : (x == 1) = false := beq_eq_false_iff_ne.2 h1
    clear h0 h1 e
    go_enter Tryd.func32, Tryd.ntmps32
    go_wp2_with fail
    go_ret
    exact ⟨by rw [HE.out]; rfl, rfl⟩
end Go.Proofs.YtnppopeoloigeaaDoor

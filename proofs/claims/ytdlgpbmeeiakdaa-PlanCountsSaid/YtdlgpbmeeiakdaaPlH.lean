/-
  Whether events are fair.
-/
import Derived.Test.YtdlgpbmeeiakdaaRows
import Derived.Test.YtdlgpbmeeiakdaaKit
import Derived.Test.YtdlgpbmeeiakdaaApp
import Derived.Test.YtdlgpbmeeiakdaaEv
import Derived.Test.YtdlgpbmeeiakdaaEvP
import Derived.Test.YtdlgpbmeeiakdaaEvQ
import Derived.Test.YtdlgpbmeeiakdaaEvR
import Derived.Test.YtdlgpbmeeiakdaaQuiet
import Derived.Test.YtdlgpbmeeiakdaaPlA
import Derived.Test.YtdlgpbmeeiakdaaPlB
import Derived.WalkKit
import Derived.ProofKit
import Derived.OpenShut
import Derived.ShutString
import Derived.Below
import Derived.Outline
import Derived.WalkLawsBesides
import Derived.WalkSpells
import Derived.Handy
import Derived.Deep.QuietTactic
import Derived.BigQuiet
import Derived.RegionTactic
import Derived.ChangeAlike
import Derived.Lib.Hide
import Derived.Laws.Rows
import Derived.Laws.Tables
import Derived.Laws.CopyOwn
import Derived.Laws.MakeOwn
import Derived.Laws.Entries
import Derived.Laws.OwnMore
import Derived.Deep.WholeRow
import Derived.Deep.LoopGhost
import Derived.Deep.AppendLies
import Derived.Deep.Draws
import Derived.Maps.AppendAt
import Derived.OwnWalk
import Derived.Deep.RegionHeld3
import Derived.Deep.Cut
import Derived.Deep.CutRange
import Derived.Deep.DeepCutAuto
import Derived.Deep.CutBlock
import Derived.Lib.SliceRun
import Derived.IntWalk
namespace Go.Proofs.Ytdlgpbmeeiakdaa
open Go.ChangeShapes Go.WideShapes Go.ChangeAt Go.RowKit
/-- Is each of the first so many agents picked in time? -/
def fbS (mw : Int) (l : List Ev) : Nat → Bool
  | 0 => true
  | k + 1 => fbS mw l k && decide (((gapS (k : Int) l).1 : Int) < mw)
theorem fbS_false (mw : Int) (l : List Ev) (k : Nat) (h : fbS mw l k = false) : ∀ m, k ≤ m → fbS mw l m = false := by
  intro m hm
  induction m with
  | zero => have : k = 0 := by omega
            subst this; exact h
  | succ m ih =>
    by_cases hk : k = m + 1
    · subst hk; exact h
    · show (fbS mw l m && _) = false
      rw [ih (by omega)]; rfl
set_option maxHeartbeats 2000000 in
theorem fair_le (p c n b r f g win : Int) (m : Nat) (A : Option Addr) (cap : Nat) (l : List Ev) (w : World) (h : EAt w A l) (hl : l.length ≤ 100000) (hm : (m : Int) = p + 2 * (n * b)) (hnb : 1 ≤ n * b ∧ n * b ≤ 12) (hp : 1 ≤ p ∧ p ≤ 6) (hwin : 1 < win) :
    Calls Try.prog 33 #[.agg #[.int .i64 p, .int .i64 c, .int .i64 n, .int .i64 b, .int .i64 r, .int .i64 f, .int .i64 g], .int .i64 win, .slice A l.length cap] w fun e w' => e = .returned (.bool (fbS (win) l m)) ∧ Below w.heap.size w w' := by
  have H := Lib.hid h
  have HAG := Lib.hid (fun W => show Calls Try.prog 15 #[.agg #[.int .i64 p, .int .i64 c, .int .i64 n, .int .i64 b, .int .i64 r, .int .i64 f, .int .i64 g]] W (fun e w' => e = .returned (.int .i64 (m : Int)) ∧ Below W.heap.size W w') from by rw [hm]; exact agents_i p c n b r f g W hnb hp)
  have m1 : m ≤ 30 := by omega
  clear h hm hnb hp
  go_enter Try.func33, Try.ntmps33
  go_wp2_with fail
  refine (HAG.out _).mono ?_
  rintro e v1 ⟨rfl, hb1⟩
  have hB1 : Below w.heap.size w v1 := Below.step (by go_grown) hb1
  clear hb1
  go_wp2_with fail
  go_loopw [10] (fun i wr => ∃ k : Nat, k ≤ m ∧ i = .int .i64 (k : Int) ∧ Hid (fbS (win) l k = true) ∧ Below w.heap.size w wr) (fun i _ => m + 1 - (intOf i).toNat)
  case atStart => exact ⟨0, Nat.zero_le _, rfl, rfl, hB1⟩
  case round =>
    clear hB1
    obtain ⟨k, hk, rfl, HF, hB⟩ := hrel
    by_cases hlt : k < m
    · have k0 : (0 : Int) ≤ (k : Int) := by omega
      have k1 : (k : Int) < (m : Int) := by omega
      have k2 : (m : Int) ≤ 30 := by omega
      have HE := Lib.hid (H.out.below hB)
      have HGP := Lib.hid (fun W (h : EAt W A l) => gap_is (k : Int) A cap l W h hl)
      have HNX := Lib.hid (show fbS (win) l (k + 1) = decide (((gapS (k : Int) l).1 : Int) < win) from by show (fbS (win) l k && _) = _; rw [HF.out, Bool.true_and])
      generalize ((gapS (k : Int) l).1 : Nat) = G at *
      go_wp2_with fail
      refine (HGP.out _ HE.out).mono ?_
      rintro e w3 ⟨rfl, hb3⟩
      have hB3 := Below.step hB hb3
      clear hb3
      by_cases hx : win ≤ (G : Int)
      · have HFA := Lib.hid (fbS_false (win) l (k + 1) (by rw [HNX.out]; exact decide_eq_false (by omega)) m (by omega))
        go_wp2_with fail
        go_ret
        rw [HFA.out]
        exact ⟨rfl, hB3⟩
      · have hd : decide (win ≤ (G : Int)) = false := decide_eq_false hx
        have HTR := Lib.hid (show fbS (win) l (k + 1) = true from by rw [HNX.out]; exact decide_eq_true (by omega))
        go_wp2_with fail
        go_roundw
        case rel => exact ⟨k + 1, by omega, by go_num, HTR, hB3⟩
        case measure => simp [intOf]; omega
    · obtain rfl : m = k := by omega
      have hd : decide ((m : Int) < (m : Int)) = false := decide_eq_false (by omega)
      go_wp2_with fail
      go_ret
      rw [HF.out]
      exact ⟨rfl, hB⟩
set_option maxHeartbeats 2000000 in
theorem fair_gt (p c n b r f g win : Int) (m : Nat) (A : Option Addr) (cap : Nat) (l : List Ev) (w : World) (h : EAt w A l) (hl : l.length ≤ 100000) (hm : (m : Int) = p + 2 * (n * b)) (hnb : 1 ≤ n * b ∧ n * b ≤ 12) (hp : 1 ≤ p ∧ p ≤ 6) (hwin : win ≤ 1) :
    Calls Try.prog 33 #[.agg #[.int .i64 p, .int .i64 c, .int .i64 n, .int .i64 b, .int .i64 r, .int .i64 f, .int .i64 g], .int .i64 win, .slice A l.length cap] w fun e w' => e = .returned (.bool (fbS (1) l m)) ∧ Below w.heap.size w w' := by
  have H := Lib.hid h
  have HAG := Lib.hid (fun W => show Calls Try.prog 15 #[.agg #[.int .i64 p, .int .i64 c, .int .i64 n, .int .i64 b, .int .i64 r, .int .i64 f, .int .i64 g]] W (fun e w' => e = .returned (.int .i64 (m : Int)) ∧ Below W.heap.size W w') from by rw [hm]; exact agents_i p c n b r f g W hnb hp)
  have m1 : m ≤ 30 := by omega
  clear h hm hnb hp
  go_enter Try.func33, Try.ntmps33
  go_wp2_with fail
  refine (HAG.out _).mono ?_
  rintro e v1 ⟨rfl, hb1⟩
  have hB1 : Below w.heap.size w v1 := Below.step (by go_grown) hb1
  clear hb1
  go_wp2_with fail
  go_loopw [10] (fun i wr => ∃ k : Nat, k ≤ m ∧ i = .int .i64 (k : Int) ∧ Hid (fbS (1) l k = true) ∧ Below w.heap.size w wr) (fun i _ => m + 1 - (intOf i).toNat)
  case atStart => exact ⟨0, Nat.zero_le _, rfl, rfl, hB1⟩
  case round =>
    clear hB1
    obtain ⟨k, hk, rfl, HF, hB⟩ := hrel
    by_cases hlt : k < m
    · have k0 : (0 : Int) ≤ (k : Int) := by omega
      have k1 : (k : Int) < (m : Int) := by omega
      have k2 : (m : Int) ≤ 30 := by omega
      have HE := Lib.hid (H.out.below hB)
      have HGP := Lib.hid (fun W (h : EAt W A l) => gap_is (k : Int) A cap l W h hl)
      have HNX := Lib.hid (show fbS (1) l (k + 1) = decide (((gapS (k : Int) l).1 : Int) < 1) from by show (fbS (1) l k && _) = _; rw [HF.out, Bool.true_and])
      generalize ((gapS (k : Int) l).1 : Nat) = G at *
      go_wp2_with fail
      refine (HGP.out _ HE.out).mono ?_
      rintro e w3 ⟨rfl, hb3⟩
      have hB3 := Below.step hB hb3
      clear hb3
      by_cases hx : 1 ≤ (G : Int)
      · have HFA := Lib.hid (fbS_false (1) l (k + 1) (by rw [HNX.out]; exact decide_eq_false (by omega)) m (by omega))
        go_wp2_with fail
        go_ret
        rw [HFA.out]
        exact ⟨rfl, hB3⟩
      · have hd : decide (1 ≤ (G : Int)) = false := decide_eq_false hx
        have HTR := Lib.hid (show fbS (1) l (k + 1) = true from by rw [HNX.out]; exact decide_eq_true (by omega))
        go_wp2_with fail
        go_roundw
        case rel => exact ⟨k + 1, by omega, by go_num, HTR, hB3⟩
        case measure => simp [intOf]; omega
    · obtain rfl : m = k := by omega
      have hd : decide ((m : Int) < (m : Int)) = false := decide_eq_false (by omega)
      go_wp2_with fail
      go_ret
      rw [HF.out]
      exact ⟨rfl, hB⟩
end Go.Proofs.Ytdlgpbmeeiakdaa

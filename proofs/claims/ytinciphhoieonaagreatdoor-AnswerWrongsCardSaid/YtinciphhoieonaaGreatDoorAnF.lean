/-
  A reader's kind.
-/
import Derived.Test.YtinciphhoieonaaGreatDoorRows
import Derived.Test.YtinciphhoieonaaGreatDoorKit
import Derived.Test.YtinciphhoieonaaGreatDoorApp
import Derived.Test.YtinciphhoieonaaGreatDoorQuiet
import Derived.WalkKit
import Derived.ProofKit
import Derived.OpenShut
import Derived.ShutString
import Derived.Below
import Derived.Outline
import Derived.WalkLawsBesides
import Derived.WalkSpells
import Derived.Handy
import Derived.Deep.QuietTactic
import Derived.BigQuiet
import Derived.RegionTactic
import Derived.ChangeAlike
import Derived.Lib.Hide
import Derived.Laws.Rows
import Derived.Laws.Tables
import Derived.Laws.CopyOwn
import Derived.Laws.MakeOwn
import Derived.Laws.Entries
import Derived.Laws.OwnMore
import Derived.Deep.WholeRow
import Derived.Deep.LoopGhost
import Derived.Deep.AppendLies
import Derived.Deep.Draws
import Derived.Maps.AppendAt
import Derived.OwnWalk
import Derived.Deep.RegionHeld3
import Derived.Deep.Cut
import Derived.Deep.CutRange
import Derived.Deep.DeepCutAuto
import Derived.Deep.CutBlock
import Derived.Lib.SliceRun
import Derived.IntWalk
import Derived.Laws.Strings
import Derived.Lib.Bytealg
import Derived.Lib.Strings
import Derived.Laws.Externs
import Derived.Test.YtinciphhoieonaaGreatDoorAnL
import Derived.Test.YtinciphhoieonaaGreatDoorAnE
namespace Go.Proofs.YtinciphhoieonaaGreatDoor
open Go.ChangeShapes Go.WideShapes Go.ChangeAt Go.RowKit
theorem Bs_eq {a b : List UInt8} : ((Bs a).toList == (Bs b).toList) = (a == b) := by
  rw [ByteArray.toList_eq, ByteArray.toList_eq, Bs_list, Bs_list]
theorem rname_bel (k : Int) (hk : 1 ≤ k ∧ k ≤ 5) (w : World) : Calls Tryz.prog 23 #[.int .i64 k] w fun e w' => e = .returned (.string (Bs (rn k))) ∧ Below w.heap.size w w' := by
  refine (rname_is k (by omega) w).mono ?_
  rintro e w' ⟨rfl, rfl⟩
  exact ⟨rfl, Below.refl _ _⟩
theorem verb_bel (k : Int) (hk : 1 ≤ k ∧ k ≤ 4) (w : World) (hv : Vb w) : Calls Tryz.prog 22 #[.int .i64 k] w fun e w' => e = .returned (.string (Bs (vbl k))) ∧ Below w.heap.size w w' := by
  refine (verb_bs k hk w hv).mono ?_
  rintro e w' ⟨rfl, rfl⟩
  exact ⟨rfl, Below.refl _ _⟩
set_option maxHeartbeats 4000000 in
theorem kind_look (X S : Nat) (q : Int) (x : List UInt8) (ws : List (List UInt8)) (w : World) (h : Rd X S (x :: ws) w) (hq : ((0 : Int) ≤ q ∧ q ≤ 8 ∧ ln q = x ∧ ∀ j : Int, 0 ≤ j → j < q → ln j ≠ x) ∨ (q = 0 ∧ ∀ j : Int, 0 ≤ j → j ≤ 8 → ln j ≠ x)) : Calls Tryz.prog 48 #[.pointer (some ⟨X, 0, none⟩), .int .i64 0, .int .i64 8, .func (.func 24) #[] #[]] w fun e w' => e = .returned (.int .i64 q) ∧ Rd X S ws w' ∧ Kp X w w' := by
  have HRD := Lib.hid h
  have HQ := Lib.hid hq
  have HX := Lib.hid h.2.2.1
  clear h hq
  go_enter Tryz.func48, Tryz.ntmps48
  go_wp2_with fail
  refine (word_is X S x ws w HRD.out).mono ?_
  rintro e1 w1 ⟨rfl, hr1, hk1⟩
  have H1 : Hid (Rd X S ws w1 ∧ Kp X w w1) := Lib.hid (And.intro hr1 hk1)
  clear hr1 hk1
  go_wp2_with fail
  go_loopw [10] (fun j wr => ∃ n : Int, 0 ≤ n ∧ n ≤ 8 + 1 ∧ j = .int .i64 n ∧ Hid ((∀ j : Int, 0 ≤ j → j < n → ln j ≠ x) ∧ Rd X S ws wr ∧ Kp X w wr)) (fun j _ => (8 + 2 - intOf j).toNat)
  case atStart => exact ⟨0, by omega, by omega, rfl, Lib.hid ⟨fun j h1 h2 => absurd h1 (by omega), H1.out⟩⟩
  case round =>
    clear H1
    obtain ⟨n, hn0, hn, rfl, HM⟩ := hrel
    by_cases hlt : n ≤ 8
    · have HN : Hid (0 ≤ n ∧ n ≤ 8) := Lib.hid ⟨hn0, hlt⟩
      have q1 : decide (n ≤ 8) = true := decide_eq_true hlt
      go_wp2_with fail
      refine (look_any n HN.out _).mono ?_
      rintro e2 w2 ⟨rfl, hb2⟩
      have HB := Lib.hid (And.intro (HM.out.2.1.below hb2) (HM.out.2.2.trans (Kp.of (Nat.le_of_lt HM.out.2.1.2.2.1) hb2)))
      clear hb2
      by_cases hx : ln n = x
      · have hz : ((Bs (ln n)).toList == (Bs x).toList) = true := by rw [Bs_eq, hx]; exact beq_self_eq_true x
        have HXX := Lib.hid hx
        clear hx
        go_wp2_with fail
        go_ret
        refine ⟨?_, HB.out⟩
        have e : n = q := by
          rcases HQ.out with ⟨a1, a2, a3, a4⟩ | ⟨a1, a2⟩
          · rcases Int.lt_trichotomy n q with h | h | h
            · exact absurd HXX.out (a4 n HN.out.1 h)
            · exact h
            · exact absurd a3 (HM.out.1 q a1 h)
          · exact absurd HXX.out (a2 n HN.out.1 HN.out.2)
        rw [← e]; rfl
      · have hz : ((Bs (ln n)).toList == (Bs x).toList) = false := by rw [Bs_eq]; exact beq_eq_false_iff_ne.2 hx
        have HXX := Lib.hid hx
        clear hx
        go_wp2_with fail
        go_roundw
        case rel =>
          refine ⟨n + 1, by have := HN.out; omega, by have := HN.out; omega, by go_num, Lib.hid ⟨fun j h1 h2 => ?_, HB.out⟩⟩
          by_cases hj : j < n
          · exact HM.out.1 j h1 hj
          · obtain rfl : j = n := by omega
            exact HXX.out
        case measure => have := HN.out; simp [intOf]; omega
    · have q1 : decide (n ≤ 8) = false := decide_eq_false hlt
      have HN : Hid (8 < n) := Lib.hid (by omega)
      clear hlt hn hn0
      go_wp2_with fail
      go_ret
      refine ⟨?_, HM.out.2⟩
      have e : q = 0 := by
        rcases HQ.out with ⟨a1, a2, a3, a4⟩ | ⟨a1, a2⟩
        · exact absurd a3 (HM.out.1 q a1 (by have := HN.out; omega))
        · exact a1
      rw [e]; rfl
set_option maxHeartbeats 4000000 in
theorem kind_rname (X S : Nat) (q : Int) (x : List UInt8) (ws : List (List UInt8)) (w : World) (h : Rd X S (x :: ws) w) (hq : ((1 : Int) ≤ q ∧ q ≤ 5 ∧ rn q = x ∧ ∀ j : Int, 1 ≤ j → j < q → rn j ≠ x) ∨ (q = 0 ∧ ∀ j : Int, 1 ≤ j → j ≤ 5 → rn j ≠ x)) : Calls Tryz.prog 48 #[.pointer (some ⟨X, 0, none⟩), .int .i64 1, .int .i64 5, .func (.func 23) #[] #[]] w fun e w' => e = .returned (.int .i64 q) ∧ Rd X S ws w' ∧ Kp X w w' := by
  have HRD := Lib.hid h
  have HQ := Lib.hid hq
  have HX := Lib.hid h.2.2.1
  clear h hq
  go_enter Tryz.func48, Tryz.ntmps48
  go_wp2_with fail
  refine (word_is X S x ws w HRD.out).mono ?_
  rintro e1 w1 ⟨rfl, hr1, hk1⟩
  have H1 : Hid (Rd X S ws w1 ∧ Kp X w w1) := Lib.hid (And.intro hr1 hk1)
  clear hr1 hk1
  go_wp2_with fail
  go_loopw [10] (fun j wr => ∃ n : Int, 1 ≤ n ∧ n ≤ 5 + 1 ∧ j = .int .i64 n ∧ Hid ((∀ j : Int, 1 ≤ j → j < n → rn j ≠ x) ∧ Rd X S ws wr ∧ Kp X w wr)) (fun j _ => (5 + 2 - intOf j).toNat)
  case atStart => exact ⟨1, by omega, by omega, rfl, Lib.hid ⟨fun j h1 h2 => absurd h1 (by omega), H1.out⟩⟩
  case round =>
    clear H1
    obtain ⟨n, hn0, hn, rfl, HM⟩ := hrel
    by_cases hlt : n ≤ 5
    · have HN : Hid (1 ≤ n ∧ n ≤ 5) := Lib.hid ⟨hn0, hlt⟩
      have q1 : decide (n ≤ 5) = true := decide_eq_true hlt
      go_wp2_with fail
      refine (rname_bel n HN.out _).mono ?_
      rintro e2 w2 ⟨rfl, hb2⟩
      have HB := Lib.hid (And.intro (HM.out.2.1.below hb2) (HM.out.2.2.trans (Kp.of (Nat.le_of_lt HM.out.2.1.2.2.1) hb2)))
      clear hb2
      by_cases hx : rn n = x
      · have hz : ((Bs (rn n)).toList == (Bs x).toList) = true := by rw [Bs_eq, hx]; exact beq_self_eq_true x
        have HXX := Lib.hid hx
        clear hx
        go_wp2_with fail
        go_ret
        refine ⟨?_, HB.out⟩
        have e : n = q := by
          rcases HQ.out with ⟨a1, a2, a3, a4⟩ | ⟨a1, a2⟩
          · rcases Int.lt_trichotomy n q with h | h | h
            · exact absurd HXX.out (a4 n HN.out.1 h)
            · exact h
            · exact absurd a3 (HM.out.1 q a1 h)
          · exact absurd HXX.out (a2 n HN.out.1 HN.out.2)
        rw [← e]; rfl
      · have hz : ((Bs (rn n)).toList == (Bs x).toList) = false := by rw [Bs_eq]; exact beq_eq_false_iff_ne.2 hx
        have HXX := Lib.hid hx
        clear hx
        go_wp2_with fail
        go_roundw
        case rel =>
          refine ⟨n + 1, by have := HN.out; omega, by have := HN.out; omega, by go_num, Lib.hid ⟨fun j h1 h2 => ?_, HB.out⟩⟩
          by_cases hj : j < n
          · exact HM.out.1 j h1 hj
          · obtain rfl : j = n := by omega
            exact HXX.out
        case measure => have := HN.out; simp [intOf]; omega
    · have q1 : decide (n ≤ 5) = false := decide_eq_false hlt
      have HN : Hid (5 < n) := Lib.hid (by omega)
      clear hlt hn hn0
      go_wp2_with fail
      go_ret
      refine ⟨?_, HM.out.2⟩
      have e : q = 0 := by
        rcases HQ.out with ⟨a1, a2, a3, a4⟩ | ⟨a1, a2⟩
        · exact absurd a3 (HM.out.1 q a1 (by have := HN.out; omega))
        · exact a1
      rw [e]; rfl
set_option maxHeartbeats 4000000 in
theorem kind_verb (X S : Nat) (q : Int) (x : List UInt8) (ws : List (List UInt8)) (w : World) (h : Rd X S (x :: ws) w) (hv : ∀ wx, Kp X w wx → Vb wx) (hq : ((1 : Int) ≤ q ∧ q ≤ 4 ∧ vbl q = x ∧ ∀ j : Int, 1 ≤ j → j < q → vbl j ≠ x) ∨ (q = 0 ∧ ∀ j : Int, 1 ≤ j → j ≤ 4 → vbl j ≠ x)) : Calls Tryz.prog 48 #[.pointer (some ⟨X, 0, none⟩), .int .i64 1, .int .i64 4, .func (.func 22) #[] #[]] w fun e w' => e = .returned (.int .i64 q) ∧ Rd X S ws w' ∧ Kp X w w' := by
  have HRD := Lib.hid h
  have HQ := Lib.hid hq
  have HX := Lib.hid h.2.2.1
  have HV := Lib.hid hv
  clear h hq
  go_enter Tryz.func48, Tryz.ntmps48
  go_wp2_with fail
  refine (word_is X S x ws w HRD.out).mono ?_
  rintro e1 w1 ⟨rfl, hr1, hk1⟩
  have H1 : Hid (Rd X S ws w1 ∧ Kp X w w1) := Lib.hid (And.intro hr1 hk1)
  clear hr1 hk1
  go_wp2_with fail
  go_loopw [10] (fun j wr => ∃ n : Int, 1 ≤ n ∧ n ≤ 4 + 1 ∧ j = .int .i64 n ∧ Hid ((∀ j : Int, 1 ≤ j → j < n → vbl j ≠ x) ∧ Rd X S ws wr ∧ Kp X w wr)) (fun j _ => (4 + 2 - intOf j).toNat)
  case atStart => exact ⟨1, by omega, by omega, rfl, Lib.hid ⟨fun j h1 h2 => absurd h1 (by omega), H1.out⟩⟩
  case round =>
    clear H1
    obtain ⟨n, hn0, hn, rfl, HM⟩ := hrel
    by_cases hlt : n ≤ 4
    · have HN : Hid (1 ≤ n ∧ n ≤ 4) := Lib.hid ⟨hn0, hlt⟩
      have q1 : decide (n ≤ 4) = true := decide_eq_true hlt
      go_wp2_with fail
      refine (verb_bel n HN.out _ (HV.out _ HM.out.2.2)).mono ?_
      rintro e2 w2 ⟨rfl, hb2⟩
      have HB := Lib.hid (And.intro (HM.out.2.1.below hb2) (HM.out.2.2.trans (Kp.of (Nat.le_of_lt HM.out.2.1.2.2.1) hb2)))
      clear hb2
      by_cases hx : vbl n = x
      · have hz : ((Bs (vbl n)).toList == (Bs x).toList) = true := by rw [Bs_eq, hx]; exact beq_self_eq_true x
        have HXX := Lib.hid hx
        clear hx
        go_wp2_with fail
        go_ret
        refine ⟨?_, HB.out⟩
        have e : n = q := by
          rcases HQ.out with ⟨a1, a2, a3, a4⟩ | ⟨a1, a2⟩
          · rcases Int.lt_trichotomy n q with h | h | h
            · exact absurd HXX.out (a4 n HN.out.1 h)
            · exact h
            · exact absurd a3 (HM.out.1 q a1 h)
          · exact absurd HXX.out (a2 n HN.out.1 HN.out.2)
        rw [← e]; rfl
      · have hz : ((Bs (vbl n)).toList == (Bs x).toList) = false := by rw [Bs_eq]; exact beq_eq_false_iff_ne.2 hx
        have HXX := Lib.hid hx
        clear hx
        go_wp2_with fail
        go_roundw
        case rel =>
          refine ⟨n + 1, by have := HN.out; omega, by have := HN.out; omega, by go_num, Lib.hid ⟨fun j h1 h2 => ?_, HB.out⟩⟩
          by_cases hj : j < n
          · exact HM.out.1 j h1 hj
          · obtain rfl : j = n := by omega
            exact HXX.out
        case measure => have := HN.out; simp [intOf]; omega
    · have q1 : decide (n ≤ 4) = false := decide_eq_false hlt
      have HN : Hid (4 < n) := Lib.hid (by omega)
      clear hlt hn hn0
      go_wp2_with fail
      go_ret
      refine ⟨?_, HM.out.2⟩
      have e : q = 0 := by
        rcases HQ.out with ⟨a1, a2, a3, a4⟩ | ⟨a1, a2⟩
        · exact absurd a3 (HM.out.1 q a1 (by have := HN.out; omega))
        · exact a1
      rw [e]; rfl

end Go.Proofs.YtinciphhoieonaaGreatDoor

/-
  The walk of FieldPacks, case by case.
-/
import Derived.Test.YtjkojbaphdlhlaaDoorRows
import Derived.Test.YtjkojbaphdlhlaaDoorKit
import Derived.Test.YtjkojbaphdlhlaaDoorApp
import Derived.Test.YtjkojbaphdlhlaaDoorQuiet
import Derived.Test.YtjkojbaphdlhlaaDoorAsF
import Derived.Test.YtjkojbaphdlhlaaDoorAsC
import Derived.Test.YtjkojbaphdlhlaaDoorAsD
import Derived.Test.YtjkojbaphdlhlaaDoorAsE
import Derived.Test.YtjkojbaphdlhlaaDoorAsG
import Derived.Test.YtjkojbaphdlhlaaDoorWraps
import Derived.Test.YtjkojbaphdlhlaaDoorAwake1
import Derived.Test.YtjkojbaphdlhlaaDoorIsC
import Derived.Test.YtjkojbaphdlhlaaDoorFpLay
import Derived.Test.YtjkojbaphdlhlaaDoorFpAny
import Derived.Test.YtjkojbaphdlhlaaDoorFpGet
import Derived.Test.YtjkojbaphdlhlaaDoorFpRefTwo
import Derived.Test.YtjkojbaphdlhlaaDoorFpAwakeB
import Derived.Test.YtjkojbaphdlhlaaDoorFpAll
import Derived.Test.YtjkojbaphdlhlaaDoorFpCheck
import Derived.Test.YtjkojbaphdlhlaaDoorFpBad
import Derived.Test.YtjkojbaphdlhlaaDoorFpF0
import Derived.Test.YtjkojbaphdlhlaaDoorFpF1
import Derived.Test.YtjkojbaphdlhlaaDoorFpF5
import Derived.WalkKit
import Derived.ProofKit
import Derived.OpenShut
import Derived.ShutString
import Derived.Below
import Derived.Outline
import Derived.WalkLawsBesides
import Derived.WalkSpells
import Derived.Handy
import Derived.Deep.QuietTactic
import Derived.BigQuiet
import Derived.RegionTactic
import Derived.ChangeAlike
import Derived.Lib.Hide
import Derived.Laws.Rows
import Derived.Laws.Tables
import Derived.Laws.CopyOwn
import Derived.Deep.WholeRow
import Derived.Deep.LoopGhost
import Derived.Laws.BitsAllLaws
import Derived.Laws.BitsLemmas
import Derived.IntWalk
import Derived.Laws.MakeOwn
import Derived.Laws.Entries
import Derived.Deep.RegionLaw
import Derived.Deep.Cut
import Derived.Deep.CutRange
import Derived.Deep.DeepCutAuto
namespace Go.Proofs.YtjkojbaphdlhlaaDoor.fieldPacks
set_option linter.unusedVariables false
set_option linter.unusedSimpArgs false
open Go.Proofs.YtjkojbaphdlhlaaDoor.Fp
open Go.ChangeShapes Go.WideShapes Go.ChangeAt Go.RowKit
set_option maxHeartbeats 1000000 in
theorem walk (a0 : Option Addr) (len0 cap0 : Nat) (z0 : List Int) (a1 : Option Addr) (len1 cap1 : Nat) (z1 : List Int) (a2 a3 : Int) (w : World) (hg : w.cell? ⟨0, 0, none⟩ = some (.iface 126 (.agg #[.pointer (some ⟨1, 30, none⟩)]))) (hgl : 0 < w.heap.size)
    (w0 : IsRow .i64 w a0 len0 cap0 z0) (w1 : IsRow .i64 w a1 len1 cap1 z1) (w2 : (Lit.int .u64 a2).wf = true) (w3 : (Lit.int .i64 a3).wf = true) :
    Calls Tryd.prog 3 #[.slice a0 len0 cap0, .slice a1 len1 cap1, .int .u64 a2, .int .i64 a3] w fun e w' => e = .returned (.bool true) ∧ Below w.heap.size w w' := by
  have hb2 := bounds_u64 w2
  obtain ⟨x, rfl⟩ : ∃ x : Nat, a2 = (x : Int) := ⟨a2.toNat, by omega⟩
  have hx : x < 18446744073709551616 := by omega
  by_cases h0 : 70 < len0
  · exact long0 a0 a1 len0 cap0 len1 cap1 x a3 w h0
  by_cases h1 : 70 < len1
  · exact long1 a0 a1 len0 cap0 len1 cap1 x a3 w (by omega) h1
  have hR := row_of w0
  have hZ := row_of w1
  generalize (fun k => z0.getD k 0) = ws at hR
  generalize (fun k => z1.getD k 0) = zs at hZ
  clear w0 w1 w2 w3 hb2
  by_cases hok : ∀ k, k < len0 → 1 ≤ ws k ∧ ws k ≤ 32 ∧ pre_ ws k + ws k ≤ 64
  · obtain ⟨hP, hp1, hp2⟩ := pre_steps ws len0 hok
    have hS := steps_cut hP
    have hw := cut_ws (n := len0) ws
    have hNW := fun W (h : RowI W a0 len0 ws) => new_ok a0 len0 cap0 ws (pre_ ws) W h hP (fun k _ => rfl)
    have hKW := fun W (h : RowI W a0 len0 ws) => rcheck_ok a0 len0 cap0 ws (pre_ ws) W h hP (fun k _ => rfl)
    generalize (fun k => if k ≤ len0 then pre_ ws k else 0) = s at hS hw hNW
    by_cases hl : len1 = len0
    · subst hl
      by_cases hv : ∀ k, k < len1 → 0 ≤ zs k ∧ zs k < 2 ^ (s (k + 1) - s k).toNat
      · exact fine0 a0 a1 len1 cap0 len1 cap1 ws zs x a3 (word s zs len1 : Nat) w hg hgl (by omega) (by omega) hx s hS hw hR hZ hNW hKW
          (fun cs W hL h => pack_ok hL hS a1 cap1 W h hv) (fun W hA hB => rpack_ok hS hw a0 a1 cap0 cap1 W hA hB hv)
      · obtain ⟨j, hj, hjv, hjb⟩ := least (fun k => 0 ≤ zs k ∧ zs k < 2 ^ (s (k + 1) - s k).toNat) len1 hv
        exact fine5 a0 a1 len1 cap0 len1 cap1 ws zs x a3 (j : Int) w hg hgl (by omega) (by omega) hx s hS hw hR hZ hNW hKW
          (fun cs W hL h => pack_bad hL hS a1 cap1 W h j hj hjv hjb) (fun W hA hB => rpack_bad hS hw a0 a1 cap0 cap1 W hA hB j hj hjv hjb)
    · exact fine1 a0 a1 len0 cap0 len1 cap1 ws zs x a3 w hg hgl (by omega) (by omega) hx s hS hw hR hZ hNW hKW
        (fun cs W hL _ => pack_len hL a1 len1 cap1 W hl) (fun W _ _ => rpack_len a0 a1 len0 len1 cap0 cap1 W hl)
  · obtain ⟨j, hj, hjv, hjb⟩ := least (fun k => 1 ≤ ws k ∧ ws k ≤ 32 ∧ pre_ ws k + ws k ≤ 64) len0 hok
    obtain ⟨hP, hp1, hp2⟩ := pre_steps ws j hjv
    have hbb : ws j < 1 ∨ 32 < ws j ∨ 64 < pre_ ws j + ws j := by omega
    have hNW := fun W (h : RowI W a0 len0 ws) => new_bad a0 len0 cap0 ws (pre_ ws) W h j hj hP (fun k _ => rfl) ⟨by omega, hp2⟩ hP.2.1 hbb
    have hKW := fun W (h : RowI W a0 len0 ws) => rcheck_bad a0 len0 cap0 ws (pre_ ws) W h j hj hP (fun k _ => rfl) ⟨by omega, hp2⟩ hP.2.1 hbb
    by_cases hc : ws j < 1 ∨ 32 < ws j
    · rw [show badCode (ws j) = ((5 : Nat) : Int) from if_pos hc] at hNW hKW
      exact bad a0 a1 len0 cap0 len1 cap1 ws x a3 5 (j : Int) w hg hgl (by omega) (by omega) (.inr rfl) hNW hKW hR
    · rw [show badCode (ws j) = ((4 : Nat) : Int) from if_neg hc] at hNW hKW
      exact bad a0 a1 len0 cap0 len1 cap1 ws x a3 4 (j : Int) w hg hgl (by omega) (by omega) (.inl rfl) hNW hKW hR
end Go.Proofs.YtjkojbaphdlhlaaDoor.fieldPacks

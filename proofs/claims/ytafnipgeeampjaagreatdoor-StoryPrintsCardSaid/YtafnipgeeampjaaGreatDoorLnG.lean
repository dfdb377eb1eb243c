/-
  A number's digits.
-/
import Derived.Test.YtafnipgeeampjaaGreatDoorRows
import Derived.Test.YtafnipgeeampjaaGreatDoorKit
import Derived.Test.YtafnipgeeampjaaGreatDoorApp
import Derived.Test.YtafnipgeeampjaaGreatDoorQuiet
import Derived.WalkKit
import Derived.ProofKit
import Derived.OpenShut
import Derived.ShutString
import Derived.Below
import Derived.Outline
import Derived.WalkLawsBesides
import Derived.WalkSpells
import Derived.Handy
import Derived.Deep.QuietTactic
import Derived.BigQuiet
import Derived.RegionTactic
import Derived.ChangeAlike
import Derived.Lib.Hide
import Derived.Laws.Rows
import Derived.Laws.Tables
import Derived.Laws.CopyOwn
import Derived.Laws.MakeOwn
import Derived.Laws.Entries
import Derived.Laws.OwnMore
import Derived.Deep.WholeRow
import Derived.Deep.LoopGhost
import Derived.Deep.AppendLies
import Derived.Deep.Draws
import Derived.Maps.AppendAt
import Derived.OwnWalk
import Derived.Deep.RegionHeld3
import Derived.Deep.Cut
import Derived.Deep.CutRange
import Derived.Deep.DeepCutAuto
import Derived.Deep.CutBlock
import Derived.Lib.SliceRun
import Derived.IntWalk
import Derived.Laws.Strings
import Derived.Lib.Bytealg
import Derived.Lib.Strings
import Derived.Laws.Externs
import Derived.Test.YtafnipgeeampjaaGreatDoorLnD
import Derived.Laws.Externs
import Derived.Laws.IdiomStrings
namespace Go.Proofs.YtafnipgeeampjaaGreatDoor
open Go.ChangeShapes Go.WideShapes Go.ChangeAt Go.RowKit
def dg (n : Nat) : UInt8 := UInt8.ofNat (48 + n)
/-- A number's digits. -/
def dcl (n : Nat) : List UInt8 := if h : n < 10 then [dg n] else dcl (n / 10) ++ [dg (n % 10)]
termination_by n
decreasing_by omega
theorem dcl_small {n : Nat} (h : n < 10) : dcl n = [dg n] := by rw [dcl, dif_pos h]
theorem dcl_big {n : Nat} (h : ¬ n < 10) : dcl n = dcl (n / 10) ++ [dg (n % 10)] := by rw [dcl, dif_neg h]
theorem dcl_len : ∀ (k n : Nat), n < 10 ^ (k + 1) → (dcl n).length ≤ k + 1
  | 0, n, h => by rw [dcl_small (by simpa using h)]; simp
  | k + 1, n, h => by
    by_cases h1 : n < 10
    · rw [dcl_small h1]; simp
    · rw [dcl_big h1]
      have := dcl_len k (n / 10) (by rw [Nat.pow_succ] at h; omega)
      simp; omega
theorem ofNat_dig {n : Nat} (h : n < 10) : (dg n).toNat = 48 + n := by
  unfold dg
  rw [UInt8.toNat_ofNat']
  omega
set_option maxRecDepth 100000 in
set_option maxHeartbeats 1000000 in
theorem digit_is (n : Nat) (hn : n < 10) (w : World) : Calls Tryz.prog 25 #[.int .i64 (n : Int)] w fun e w' => e = .returned (.string (Bs [dg n])) ∧ Below w.heap.size w w' := by
  have h0 : (0 : Int) ≤ (n : Int) := by omega
  have h1 : (n : Int) ≤ 9 := by omega
  have hc := run_convert_bytes_back (P := Tryz.prog) (w.alloc (Obj.cells #[Value.int IntKind.u8 (48 + (n : Int))] 5)) 90 9 5 ⟨w.heap.size, 0, none⟩ 1 [dg n] Tryz.underlying90 Tryz.underlying5 Tryz.underlying9 (fun j hj => by
    have hj0 : j = 0 := by simpa using hj
    subst hj0
    have e : ((([dg n] : List UInt8)[0]'hj).toNat : Int) = 48 + (n : Int) := by
      show ((dg n).toNat : Int) = _
      rw [ofNat_dig hn]; omega
    rw [e]
    simp [go_sem])
  have hb : Below w.heap.size w (w.alloc (Obj.cells #[Value.int IntKind.u8 (48 + (n : Int))] 5)) := by go_grown
  have HB := Lib.hid hb
  have hl : [dg n].length = 1 := rfl
  rw [hl] at hc
  generalize dg n = D at hc ⊢
  clear hb hl
  go_enter Tryz.func25, Tryz.ntmps25
  go_wp2_with fail
  go_ret
  exact ⟨rfl, HB.out⟩
theorem Bs_append (a b : List UInt8) : Bs a ++ Bs b = Bs (a ++ b) := by
  have e : ∀ x y : ByteArray, x.data.toList = y.data.toList → x = y := fun x y h => by rw [← Bs_of x, ← Bs_of y, h]
  apply e
  simp [Bs]
set_option maxRecDepth 100000 in
set_option maxHeartbeats 1000000 in
theorem decimal_is : ∀ (n : Nat) (_ : n < 100000000) (w : World), Calls Tryz.prog 12 #[.int .i64 (n : Int)] w fun e w' => e = .returned (.string (Bs (dcl n))) ∧ Below w.heap.size w w' := by
  intro n
  induction n using Nat.strongRecOn with
  | ind n ih =>
    intro hn w
    have h0 : (0 : Int) ≤ (n : Int) := by omega
    by_cases h : n < 10
    · have HD := Lib.hid (fun w => digit_is n h w)
      have h2 : (n : Int) < 10 := by omega
      have HX := Lib.hid (dcl_small h)
      clear ih h
      go_enter Tryz.func12, Tryz.ntmps12
      go_wp2_with fail
      refine (HD.out _).mono ?_
      rintro e w' ⟨rfl, hb⟩
      go_wp2_with fail
      go_ret
      exact ⟨by rw [HX.out]; rfl, hb⟩
    · have hi1 := ih (n / 10) (by omega) (by omega)
      have hd1 := fun w => digit_is (n % 10) (by omega) w
      rw [show ((n / 10 : Nat) : Int) = (n : Int) / 10 from by omega] at hi1
      rw [show ((n % 10 : Nat) : Int) = (n : Int) % 10 from by omega] at hd1
      have HI := Lib.hid hi1
      have HD := Lib.hid hd1
      have HX := Lib.hid (dcl_big h)
      have h2 : decide ((n : Int) < 10) = false := decide_eq_false (by omega)
      have HL := Lib.hid (dcl_len 7 (n / 10) (by omega))
      clear ih h hi1 hd1
      generalize dcl (n / 10) = L1 at HI HX HL
      generalize dg (n % 10) = d1 at HD HX
      go_enter Tryz.func12, Tryz.ntmps12
      go_wp2_with fail
      refine (HI.out _).mono ?_
      rintro e w1 ⟨rfl, hb1⟩
      go_wp2_with fail
      refine (HD.out _).mono ?_
      rintro e w2 ⟨rfl, hb2⟩
      have HB := Lib.hid (Below.step hb1 hb2)
      have hs1 : (Bs L1).size = L1.length := Bs_size L1
      have hs2 : (Bs [d1]).size = 1 := Bs_size _
      have hl := HL.out
      clear hb1 hb2
      go_wp2_with fail
      go_ret
      exact ⟨by rw [HX.out]; rfl, HB.out⟩

end Go.Proofs.YtafnipgeeampjaaGreatDoor

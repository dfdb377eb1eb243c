/-
  From, two asks compared, the codes of a line.
-/
import Derived.Test.YtnppopeoloigeaaDoorRows
import Derived.Test.YtnppopeoloigeaaDoorKit
import Derived.Test.YtnppopeoloigeaaDoorApp
import Derived.Test.YtnppopeoloigeaaDoorQuiet
import Derived.WalkKit
import Derived.ProofKit
import Derived.OpenShut
import Derived.ShutString
import Derived.Below
import Derived.Outline
import Derived.WalkLawsBesides
import Derived.WalkSpells
import Derived.Handy
import Derived.Deep.QuietTactic
import Derived.BigQuiet
import Derived.RegionTactic
import Derived.ChangeAlike
import Derived.Lib.Hide
import Derived.Laws.Rows
import Derived.Laws.Tables
import Derived.Laws.CopyOwn
import Derived.Laws.MakeOwn
import Derived.Laws.Entries
import Derived.Laws.OwnMore
import Derived.Deep.WholeRow
import Derived.Deep.LoopGhost
import Derived.Deep.AppendLies
import Derived.Deep.Draws
import Derived.Maps.AppendAt
import Derived.OwnWalk
import Derived.Deep.RegionHeld3
import Derived.Deep.Cut
import Derived.Deep.CutRange
import Derived.Deep.DeepCutAuto
import Derived.Deep.CutBlock
import Derived.Lib.SliceRun
import Derived.IntWalk
import Derived.Laws.Strings
import Derived.Lib.Bytealg
import Derived.Lib.Strings
import Derived.Laws.Externs
import Derived.Test.YtnppopeoloigeaaDoorLnZ
import Derived.Test.YtnppopeoloigeaaDoorLnM
import Derived.Test.YtnppopeoloigeaaDoorLnQ
namespace Go.Proofs.YtnppopeoloigeaaDoor
open Go.ChangeShapes Go.WideShapes Go.ChangeAt Go.RowKit
theorem from_is (c0 c1 c2 c3 c4 c5 c6 c7 c8 : Int) (w : World) : Calls Tryd.prog 11 #[.agg (List.toArray [.int .i64 c0, .int .i64 c1, .int .i64 c2, .int .i64 c3, .int .i64 c4, .int .i64 c5, .int .i64 c6, .int .i64 c7, .int .i64 c8])] w fun e w' => e = .returned (.agg (List.toArray [.int .i64 c0, .int .i64 c1, .int .i64 c2, .int .i64 c3, .int .i64 c4, .int .i64 c5, .int .i64 c6, .int .i64 c7, .int .i64 c8])) ∧ Below w.heap.size w w' := by
  go_enter Tryd.func11, Tryd.ntmps11
  go_wp2
  refine bodyPost_ret (by simp [results, Tryd.results11, go_sem]; try rfl) rfl ⟨rfl, ?_⟩
  go_grown
theorem eqRef (c0 c1 c2 c3 c4 c5 c6 c7 c8 : Int) (d : Nat) (w : World) : (Op.equalIn (d + 3) 31 (.agg (List.toArray [.int .i64 c0, .int .i64 c1, .int .i64 c2, .int .i64 c3, .int .i64 c4, .int .i64 c5, .int .i64 c6, .int .i64 c7, .int .i64 c8])) (.agg (List.toArray [.int .i64 c0, .int .i64 c1, .int .i64 c2, .int .i64 c3, .int .i64 c4, .int .i64 c5, .int .i64 c6, .int .i64 c7, .int .i64 c8]))).run Tryd.prog w = .ok true w := by
  have u3 := Tryd.underlying3
  have a3' := Tryd.isAgg3
  have z3 := Tryd.sizeOf3
  have a63 := Tryd.isAgg24
  have z63 := Tryd.sizeOf24
  have hS : Tryd.prog.underlying 31 = some (.struct (Tryd.prog.fieldsOf 31)) := by kernel_rfl
  have hp : Tryd.prog.stoodInHeld 31 = false := by kernel_rfl
  have hT := eqTerms c3 c4 c5 c6 c7 d
  rw [show d + 3 = (d + 2) + 1 from rfl, run_equalIn_agg w (d + 2) 31 _ _ hS hp]
  simp only [Program.fieldsOf, Tryd.underlying31]
  go_simp
  try simp [hT]
theorem neqRef (c0 c1 c2 c3 c4 c5 c6 c7 c8 : Int) (w : World) : (binOp .neq 31 (.agg (List.toArray [.int .i64 c0, .int .i64 c1, .int .i64 c2, .int .i64 c3, .int .i64 c4, .int .i64 c5, .int .i64 c6, .int .i64 c7, .int .i64 c8])) (.agg (List.toArray [.int .i64 c0, .int .i64 c1, .int .i64 c2, .int .i64 c3, .int .i64 c4, .int .i64 c5, .int .i64 c6, .int .i64 c7, .int .i64 c8]))).run Tryd.prog w = .ok (.bool false) w := by
  simp only [binOp]
  simp [Op.equal, Op.maxDepth, eqRef c0 c1 c2 c3 c4 c5 c6 c7 c8 9997 w]
theorem stp_code (n : Int) : ∀ (L : List (Nat × Bool)) (cs : List Int) (r : List UInt8) (m : Bool) (c p : Int), stp n L cs r m = .er c p → 1 ≤ c ∧ c ≤ 29
  | [], cs, r, m, c, p, h => by simp [stp] at h
  | (j, b) :: t, cs, r, m, c, p, h => by
    rw [stp_cons] at h
    split at h
    · injection h with h1 h2; omega
    · split at h
      · exact stp_code n t _ _ _ c p h
      · rename_i hz
        injection h with h1 h2
        have := rdv_small b (Bs (cutb r).1)
        omega
theorem lp_code {s : ByteArray} {c p : Int} (h : lp s = .er c p) : 1 ≤ c ∧ c ≤ 29 := by
  unfold lp at h
  split at h
  · injection h with h1 h2; omega
  · split at h
    · injection h with h1 h2; omega
    · split at h
      · injection h with h1 h2; omega
      · unfold fin_ at h
        split at h
        · rename_i he
          injection h with h1 h2
          subst h1
          exact stp_code _ _ _ _ _ _ _ he
        · split at h
          · injection h with h1 h2; omega
          · cases h
theorem lp_nine' {s : ByteArray} {cl : List Int} (h : lp s = .ok cl) : ∃ c0 c1 c2 c3 c4 c5 c6 c7 c8, cl = [c0, c1, c2, c3, c4, c5, c6, c7, c8] := by
  obtain ⟨_, q, e⟩ := lp_ok h
  have h9 := stp_len _ _ _ _ _ _ _ _ e
  match cl, h9 with
  | [c0, c1, c2, c3, c4, c5, c6, c7, c8], _ => exact ⟨c0, c1, c2, c3, c4, c5, c6, c7, c8, rfl⟩

end Go.Proofs.YtnppopeoloigeaaDoor

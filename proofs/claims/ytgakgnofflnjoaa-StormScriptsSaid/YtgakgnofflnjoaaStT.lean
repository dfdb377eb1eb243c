/-
  Terms drawn: the whole.
-/
import Derived.Test.YtgakgnofflnjoaaRows
import Derived.Test.YtgakgnofflnjoaaKit
import Derived.Test.YtgakgnofflnjoaaQuiet
import Derived.Test.YtgakgnofflnjoaaSt
import Derived.WalkKit
import Derived.ProofKit
import Derived.OpenShut
import Derived.ShutString
import Derived.Below
import Derived.Outline
import Derived.WalkLawsBesides
import Derived.WalkSpells
import Derived.Handy
import Derived.Deep.QuietTactic
import Derived.BigQuiet
import Derived.RegionTactic
import Derived.ChangeAlike
import Derived.Lib.Hide
import Derived.Laws.Rows
import Derived.Laws.Tables
import Derived.Laws.CopyOwn
import Derived.Laws.MakeOwn
import Derived.Laws.Entries
import Derived.Laws.OwnMore
import Derived.Deep.WholeRow
import Derived.Deep.LoopGhost
import Derived.Deep.AppendLies
import Derived.Deep.Draws
import Derived.Maps.AppendAt
import Derived.OwnWalk
import Derived.Deep.RegionHeld3
import Derived.Deep.Cut
import Derived.Deep.CutRange
import Derived.Deep.DeepCutAuto
import Derived.Deep.CutBlock
import Derived.Lib.SliceRun
import Derived.IntWalk
import Derived.Deep.RegionWith
import Derived.Test.YtgakgnofflnjoaaStA
import Derived.Test.YtgakgnofflnjoaaStLo
import Derived.Test.YtgakgnofflnjoaaStMid
import Derived.Test.YtgakgnofflnjoaaStHi
import Derived.Test.YtgakgnofflnjoaaStLo0
import Derived.Test.YtgakgnofflnjoaaStMid0
import Derived.Test.YtgakgnofflnjoaaStHi0
namespace Go.Proofs.Ytgakgnofflnjoaa
open Go.ChangeShapes Go.WideShapes Go.ChangeAt Go.RowKit
theorem terms_is (b : Nat) (N : Int) (p c n bd r f g ma mt md ms mp mw qty now : Int) (w : World) (hc : w.cell? ⟨b, 0, none⟩ = some (.int .u64 N)) (hf : w.frozen? ⟨b, 0, none⟩ = false) (hn : 1 ≤ n ∧ n ≤ 3) (hmp : -10000 ≤ mp ∧ mp ≤ 10000) (hmw : 0 ≤ mw ∧ mw ≤ 10000) (hq : 1 ≤ qty ∧ qty ≤ 9) (hnow : 0 ≤ now ∧ now ≤ 1000000) :
    Calls Try.prog 30 #[.agg #[.int .i64 p, .int .i64 c, .int .i64 n, .int .i64 bd, .int .i64 r, .int .i64 f, .int .i64 g], .pointer (some ⟨b, 0, none⟩), .agg #[.int .i64 ma, .int .i64 mt, .int .i64 md, .int .i64 ms, .int .i64 mp, .int .i64 mw], .int .i64 qty, .int .i64 now] w fun e w' => e = .returned (.agg #[.int .i64 (bl (nx (N)) n), .int .i64 (bl (nx (nx (N))) 2), .int .i64 (hold3 (mp + bl (nx (nx (nx (N)))) (2 * mw + 1) - mw)), .int .i64 (1 + bl (nx (nx (nx (nx (N))))) qty), .int .i64 (hold2 (now + 1 + bl (nx (nx (nx (nx (nx (N)))))) 50))]) ∧ Src w w' b (nx (nx (nx (nx (nx (N)))))) := by
  by_cases h0 : 0 < mw
  · rcases (show mp + bl (nx (nx (nx (N)))) (2 * mw + 1) - mw ≤ 1 ∨ (1 < mp + bl (nx (nx (nx (N)))) (2 * mw + 1) - mw ∧ mp + bl (nx (nx (nx (N)))) (2 * mw + 1) - mw ≤ 9999) ∨ 9999 < mp + bl (nx (nx (nx (N)))) (2 * mw + 1) - mw from by omega) with h | h | h
    · rw [show hold3 (mp + bl (nx (nx (nx (N)))) (2 * mw + 1) - mw) = 1 from by unfold hold3; split <;> (first | rfl | (split <;> omega))]
      exact terms_lo b N p c n bd r f g ma mt md ms mp mw qty now w hc hf hn hmp ⟨h0, hmw.2⟩ hq hnow h
    · rw [show hold3 (mp + bl (nx (nx (nx (N)))) (2 * mw + 1) - mw) = mp + bl (nx (nx (nx (N)))) (2 * mw + 1) - mw from by unfold hold3; rw [if_neg (by omega), if_neg (by omega)]]
      exact terms_mid b N p c n bd r f g ma mt md ms mp mw qty now w hc hf hn hmp ⟨h0, hmw.2⟩ hq hnow h
    · rw [show hold3 (mp + bl (nx (nx (nx (N)))) (2 * mw + 1) - mw) = 9999 from by unfold hold3; rw [if_neg (by omega), if_pos (by omega)]]
      exact terms_hi b N p c n bd r f g ma mt md ms mp mw qty now w hc hf hn hmp ⟨h0, hmw.2⟩ hq hnow h
  · obtain rfl : mw = 0 := by omega
    rw [show mp + bl (nx (nx (nx (N)))) (2 * 0 + 1) - 0 = mp + bl (nx (nx (nx (N)))) 1 from by rw [Int.sub_zero]; rfl]
    rcases (show mp + bl (nx (nx (nx (N)))) 1 ≤ 1 ∨ (1 < mp + bl (nx (nx (nx (N)))) 1 ∧ mp + bl (nx (nx (nx (N)))) 1 ≤ 9999) ∨ 9999 < mp + bl (nx (nx (nx (N)))) 1 from by omega) with h | h | h
    · rw [show hold3 (mp + bl (nx (nx (nx (N)))) 1) = 1 from by unfold hold3; split <;> (first | rfl | (split <;> omega))]
      exact terms_lo0 b N p c n bd r f g ma mt md ms mp 0 qty now w hc hf hn hmp ⟨by omega, by omega⟩ hq hnow h
    · rw [show hold3 (mp + bl (nx (nx (nx (N)))) 1) = mp + bl (nx (nx (nx (N)))) 1 from by unfold hold3; rw [if_neg (by omega), if_neg (by omega)]]
      exact terms_mid0 b N p c n bd r f g ma mt md ms mp 0 qty now w hc hf hn hmp ⟨by omega, by omega⟩ hq hnow h
    · rw [show hold3 (mp + bl (nx (nx (nx (N)))) 1) = 9999 from by unfold hold3; rw [if_neg (by omega), if_pos (by omega)]]
      exact terms_hi0 b N p c n bd r f g ma mt md ms mp 0 qty now w hc hf hn hmp ⟨by omega, by omega⟩ hq hnow h
end Go.Proofs.Ytgakgnofflnjoaa

/-
  A storm's script: a round of it.
-/
import Derived.Test.YtgakgnofflnjoaaRows
import Derived.Test.YtgakgnofflnjoaaKit
import Derived.Test.YtgakgnofflnjoaaApp
import Derived.Test.YtgakgnofflnjoaaQuiet
import Derived.Test.YtgakgnofflnjoaaSt
import Derived.Test.YtgakgnofflnjoaaStA
import Derived.Test.YtgakgnofflnjoaaStT
import Derived.Test.YtgakgnofflnjoaaStK
import Derived.Test.YtgakgnofflnjoaaStR
import Derived.Test.YtgakgnofflnjoaaStL
import Derived.Test.YtgakgnofflnjoaaStS
import Derived.Test.YtgakgnofflnjoaaStM
import Derived.Test.YtgakgnofflnjoaaStV
import Derived.Test.YtgakgnofflnjoaaStD
import Derived.Test.YtgakgnofflnjoaaSxP
import Derived.Test.YtgakgnofflnjoaaSxA
import Derived.Test.YtgakgnofflnjoaaSxB
import Derived.Test.YtgakgnofflnjoaaSxT
import Derived.Test.YtgakgnofflnjoaaSxD
import Derived.Test.YtgakgnofflnjoaaSxK
import Derived.Test.YtgakgnofflnjoaaSxQ
import Derived.Test.YtgakgnofflnjoaaSxM
import Derived.WalkKit
import Derived.ProofKit
import Derived.OpenShut
import Derived.ShutString
import Derived.Below
import Derived.Outline
import Derived.WalkLawsBesides
import Derived.WalkSpells
import Derived.Handy
import Derived.Deep.QuietTactic
import Derived.BigQuiet
import Derived.RegionTactic
import Derived.ChangeAlike
import Derived.Lib.Hide
import Derived.Laws.Rows
import Derived.Laws.Tables
import Derived.Laws.CopyOwn
import Derived.Laws.MakeOwn
import Derived.Laws.Entries
import Derived.Laws.OwnMore
import Derived.Deep.WholeRow
import Derived.Deep.LoopGhost
import Derived.Deep.AppendLies
import Derived.Deep.Draws
import Derived.Maps.AppendAt
import Derived.OwnWalk
import Derived.Deep.RegionHeld3
import Derived.Deep.Cut
import Derived.Deep.CutRange
import Derived.Deep.DeepCutAuto
import Derived.Deep.CutBlock
import Derived.Lib.SliceRun
import Derived.IntWalk
namespace Go.Proofs.Ytgakgnofflnjoaa
open Go.ChangeShapes Go.WideShapes Go.ChangeAt Go.RowKit
theorem take_one {α : Type} (x : α) (k : Nat) (h : 0 < k) : [x].take k = [x] := List.take_of_length_le (by show 1 ≤ k; omega)
theorem draw_is (w wr : World) (B S I K np : Nat) (p c n b r f g ma mt md ms mp mw : Int) (most N now : Int) (ids : Nat → Nat) (v : Value) (L : List (List Int)) (hd : Far w B S I K) (h : WS w wr B S I K np p c n b r f g ma mt md ms mp mw most N now ids v L) (hp : 1 ≤ p ∧ p ≤ 6) (hc : 1 ≤ c ∧ c ≤ 4) (hn : 1 ≤ n ∧ n ≤ 3) (hb : 1 ≤ b ∧ b ≤ 4) (hm1 : -10000 ≤ ma ∧ ma ≤ 10000) (hm2 : -10000 ≤ mt ∧ mt ≤ 10000) (hm3 : -10000 ≤ md ∧ md ≤ 10000) (hm4 : -10000 ≤ ms ∧ ms ≤ 10000) (hm5 : -10000 ≤ mp ∧ mp ≤ 10000) (hm6 : 0 ≤ mw ∧ mw ≤ 10000) (hnow : 0 ≤ now ∧ now ≤ 1000000) (hids : ∀ j, ids j ≤ L.length) (hlm : (L.length : Int) < most) (hmost : most ≤ 65536) (hnp : (np : Int) = p) : Calls Try.prog 17 #[.pointer (some ⟨B, 0, none⟩)] wr fun e w' => ∃ q v', e = .returned q ∧ WS w w' B S I K np p c n b r f g ma mt md ms mp mw most (stepM p c n b ma mt md ms mp mw (N, now, ids)).1.1 (stepM p c n b ma mt md ms mp mw (N, now, ids)).1.2.1 (stepM p c n b ma mt md ms mp mw (N, now, ids)).1.2.2 v' (L ++ (stepM p c n b ma mt md ms mp mw (N, now, ids)).2.take (most.toNat - L.length)) := by
  have hT : 0 < most.toNat - L.length := by omega
  have hL : L.length ≤ 70000 := by omega
  unfold stepM
  dsimp only
  by_cases k1 : bl (nx (nx N)) (mx0 ma + mx0 mt + mx0 md + 4) < mx0 ma
  · rw [if_pos k1]
    have u0 := bl_lo (nx N) p
    have u1 := bl_hi (nx N) p hp.1
    have huw : bl (nx N) p = (((bl (nx N) p).toNat : Nat) : Int) := by omega
    generalize hu : (bl (nx N) p).toNat = u at *
    rcases hA : askV c n mp mw ((ids u + 1 : Nat) : Int) now (nx (nx N)) with ⟨⟨a1, a2, a3, a4, a5, a6, a7, a8, a9⟩, NA⟩
    have h9 := draw1 w wr B S I K np p c n b r f g ma mt md ms mp mw most N now ids v L hd h hp hc hn hb hm1 hm2 hm3 hm4 hm5 hm6 hnow hL hnp (fun j _ => Nat.le_trans (hids j) hL) u huw (by omega) k1 a1 a2 a3 a4 a5 a6 a7 a8 a9 NA hA
    dsimp only
    rw [take_one _ _ hT, huw]
    exact h9
  · rw [if_neg k1]
    by_cases k2 : bl (nx (nx N)) (mx0 ma + mx0 mt + mx0 md + 4) < mx0 ma + mx0 mt
    · rw [if_pos k2]
      dsimp only
      rw [take_one _ _ hT]
      exact draw2 w wr B S I K np p c n b r f g ma mt md ms mp mw most N now ids v L hd h hp hc hn hb hm1 hm2 hm3 hm4 hm5 hm6 hnow hL ⟨k1, k2⟩
    · rw [if_neg k2]
      by_cases k3 : bl (nx (nx N)) (mx0 ma + mx0 mt + mx0 md + 4) < mx0 ma + mx0 mt + mx0 md
      · rw [if_pos k3]
        dsimp only
        rw [take_one _ _ hT]
        exact draw3 w wr B S I K np p c n b r f g ma mt md ms mp mw most N now ids v L hd h hp hc hn hb hm1 hm2 hm3 hm4 hm5 hm6 hL ⟨k2, k3⟩
      · rw [if_neg k3]
        dsimp only
        rw [List.take_replicate]
        have ht : (tms (nx (nx (nx (nx N)))) ms most L.length).toNat = min (most.toNat - L.length) (1 + bl (nx (nx (nx (nx (nx N))))) ms).toNat := by
          unfold tms
          split <;> omega
        rw [← ht]
        exact draw4 w wr B S I K np p c n b r f g ma mt md ms mp mw most N now ids v L hd h hp hc hn hb hm1 hm2 hm3 hm4 hm5 hm6 hL hlm hmost k3
end Go.Proofs.Ytgakgnofflnjoaa

/-
  What is asked, one word for all kinds; whether a mood fits.
-/
import Derived.Test.YtgakgnofflnjoaaRows
import Derived.Test.YtgakgnofflnjoaaKit
import Derived.Test.YtgakgnofflnjoaaQuiet
import Derived.Test.YtgakgnofflnjoaaSt
import Derived.WalkKit
import Derived.ProofKit
import Derived.OpenShut
import Derived.ShutString
import Derived.Below
import Derived.Outline
import Derived.WalkLawsBesides
import Derived.WalkSpells
import Derived.Handy
import Derived.Deep.QuietTactic
import Derived.BigQuiet
import Derived.RegionTactic
import Derived.ChangeAlike
import Derived.Lib.Hide
import Derived.Laws.Rows
import Derived.Laws.Tables
import Derived.Laws.CopyOwn
import Derived.Laws.MakeOwn
import Derived.Laws.Entries
import Derived.Laws.OwnMore
import Derived.Deep.WholeRow
import Derived.Deep.LoopGhost
import Derived.Deep.AppendLies
import Derived.Deep.Draws
import Derived.Maps.AppendAt
import Derived.OwnWalk
import Derived.Deep.RegionHeld3
import Derived.Deep.Cut
import Derived.Deep.CutRange
import Derived.Deep.DeepCutAuto
import Derived.Deep.CutBlock
import Derived.Lib.SliceRun
import Derived.IntWalk
import Derived.Deep.RegionWith
import Derived.Test.YtgakgnofflnjoaaStA
import Derived.Test.YtgakgnofflnjoaaStT
import Derived.Test.YtgakgnofflnjoaaStK
import Derived.Test.YtgakgnofflnjoaaStR
import Derived.Test.YtgakgnofflnjoaaStL
import Derived.Test.YtgakgnofflnjoaaStS
import Derived.Test.YtgakgnofflnjoaaStM
namespace Go.Proofs.Ytgakgnofflnjoaa
open Go.ChangeShapes Go.WideShapes Go.ChangeAt Go.RowKit
/-- What is asked, and the source's number behind it. -/
def askV (c n mp mw id now N : Int) : (Int × Int × Int × Int × Int × Int × Int × Int × Int) × Int :=
  if kd (bl (nx N) 6) = 1 then ((1, id, bl (nx (nx (N))) c, bl (nx (nx (nx (nx (N))))) n, bl (nx (nx (nx (nx (nx (N)))))) 2, hold3 (mp + bl (nx (nx (nx (nx (nx (nx (N))))))) (2 * mw + 1) - mw), 1 + bl (nx (nx (nx (nx (nx (nx (nx (N)))))))) (1 + bl (nx (nx (nx (N)))) 9), hold2 (now + 1 + bl (nx (nx (nx (nx (nx (nx (nx (nx (N))))))))) 50), 1 + bl (nx (nx (nx (N)))) 9), nx (nx (nx (nx (nx (nx (nx (nx (N)))))))))
  else if kd (bl (nx N) 6) = 2 then ((2, cid id (bl (nx (nx (nx (N)))) 3), bl (nx (nx (N))) c, 0, 0, 0, 0, 0, 0), nx (nx (nx (N))))
  else ((kd (bl (nx N) 6), 0, bl (nx (nx (N))) c, 0, 0, 0, 0, 0, 0), nx (nx (N)))
def askA (v : Int × Int × Int × Int × Int × Int × Int × Int × Int) : Value := .agg #[.int .i64 v.1, .int .i64 v.2.1, .int .i64 v.2.2.1, .int .i64 v.2.2.2.1, .int .i64 v.2.2.2.2.1, .int .i64 v.2.2.2.2.2.1, .int .i64 v.2.2.2.2.2.2.1, .int .i64 v.2.2.2.2.2.2.2.1, .int .i64 v.2.2.2.2.2.2.2.2]
theorem kd_range (k : Int) : kd k = 1 ∨ kd k = 2 ∨ kd k = 3 ∨ kd k = 4 := by
  unfold kd
  split
  · exact .inl rfl
  · split
    · exact .inr (.inl rfl)
    · split
      · exact .inr (.inr (.inl rfl))
      · exact .inr (.inr (.inr rfl))
theorem cid_hold (id B : Int) (h0 : 0 ≤ id) (hB : 0 ≤ B) : holdS (id - 1 - B) 1 (id + 1) = cid id B := by
  unfold holdS cid
  by_cases h : id - 1 - B < 1
  · rw [if_pos h, if_pos h]
  · rw [if_neg h, if_neg h, if_neg (by omega)]
theorem hold2_hold (now B : Int) (h0 : 0 ≤ now) (h1 : now ≤ 1000000) (hB : 0 ≤ B) : holdS (now + 1 + B) now 1000000 = hold2 (now + 1 + B) := by
  unfold holdS hold2
  rw [if_neg (by omega)]
theorem ask_is (b : Nat) (N : Int) (p c n bd r f g ma mt md ms mp mw id now : Int) (w : World) (hc : w.cell? ⟨b, 0, none⟩ = some (.int .u64 N)) (hf : w.frozen? ⟨b, 0, none⟩ = false) (hcc : 1 ≤ c ∧ c ≤ 4) (hn : 1 ≤ n ∧ n ≤ 3) (hmp : -10000 ≤ mp ∧ mp ≤ 10000) (hmw : 0 ≤ mw ∧ mw ≤ 10000) (hid : 0 ≤ id ∧ id ≤ 1048576) (hnow : 0 ≤ now ∧ now ≤ 1000000) : Calls Try.prog 23 #[.agg #[.int .i64 p, .int .i64 c, .int .i64 n, .int .i64 bd, .int .i64 r, .int .i64 f, .int .i64 g], .pointer (some ⟨b, 0, none⟩), .agg #[.int .i64 ma, .int .i64 mt, .int .i64 md, .int .i64 ms, .int .i64 mp, .int .i64 mw], .int .i64 id, .int .i64 now] w fun e w' => e = .returned (askA (askV c n mp mw id now N).1) ∧ Src w w' b (askV c n mp mw id now N).2 := by
  rcases kd_range (bl (nx N) 6) with h | h | h | h
  · rw [show askV c n mp mw id now N = ((1, id, bl (nx (nx (N))) c, bl (nx (nx (nx (nx (N))))) n, bl (nx (nx (nx (nx (nx (N)))))) 2, hold3 (mp + bl (nx (nx (nx (nx (nx (nx (N))))))) (2 * mw + 1) - mw), 1 + bl (nx (nx (nx (nx (nx (nx (nx (N)))))))) (1 + bl (nx (nx (nx (N)))) 9), hold2 (now + 1 + bl (nx (nx (nx (nx (nx (nx (nx (nx (N))))))))) 50), 1 + bl (nx (nx (nx (N)))) 9), nx (nx (nx (nx (nx (nx (nx (nx (N))))))))) from by unfold askV; rw [if_pos h]]
    exact ask_sub b N p c n bd r f g ma mt md ms mp mw id now w hc hf hcc hn hmp hmw hid hnow h
  · rw [show askV c n mp mw id now N = ((2, cid id (bl (nx (nx (nx (N)))) 3), bl (nx (nx (N))) c, 0, 0, 0, 0, 0, 0), nx (nx (nx (N)))) from by unfold askV; rw [if_neg (by omega), if_pos h]]
    rcases (show id ≤ 1 ∨ (1 < id ∧ id - 1 - bl (nx (nx (nx (N)))) 3 ≤ 1) ∨ (1 < id ∧ 1 < id - 1 - bl (nx (nx (nx (N)))) 3) from by omega) with hw | hw | hw
    · have hb := bl_lo (nx (nx (nx (N)))) 3
      rw [show cid id (bl (nx (nx (nx (N)))) 3) = 1 from by unfold cid; rw [if_pos (by omega)]]
      exact ask_can_a b N p c n bd r f g ma mt md ms mp mw id now w hc hf hcc hn hmp hmw hid hnow h hw
    · rw [show cid id (bl (nx (nx (nx (N)))) 3) = 1 from by unfold cid; split <;> omega]
      exact ask_can_b b N p c n bd r f g ma mt md ms mp mw id now w hc hf hcc hn hmp hmw hid hnow h hw
    · rw [show cid id (bl (nx (nx (nx (N)))) 3) = id - 1 - bl (nx (nx (nx (N)))) 3 from by unfold cid; rw [if_neg (by omega)]]
      exact ask_can_c b N p c n bd r f g ma mt md ms mp mw id now w hc hf hcc hn hmp hmw hid hnow h hw
  · rw [show askV c n mp mw id now N = ((3, 0, bl (nx (nx (N))) c, 0, 0, 0, 0, 0, 0), nx (nx (N))) from by unfold askV; rw [if_neg (by omega), if_neg (by omega), h]]
    exact ask_look3 b N p c n bd r f g ma mt md ms mp mw id now w hc hf hcc hn hmp hmw hid hnow h
  · rw [show askV c n mp mw id now N = ((4, 0, bl (nx (nx (N))) c, 0, 0, 0, 0, 0, 0), nx (nx (N))) from by unfold askV; rw [if_neg (by omega), if_neg (by omega), h]]
    exact ask_look4 b N p c n bd r f g ma mt md ms mp mw id now w hc hf hcc hn hmp hmw hid hnow h
theorem ref_is (b : Nat) (N : Int) (p c n bd r f g ma mt md ms mp mw id now : Int) (w : World) (hc : w.cell? ⟨b, 0, none⟩ = some (.int .u64 N)) (hf : w.frozen? ⟨b, 0, none⟩ = false) (hcc : 1 ≤ c ∧ c ≤ 4) (hn : 1 ≤ n ∧ n ≤ 3) (hmp : -10000 ≤ mp ∧ mp ≤ 10000) (hmw : 0 ≤ mw ∧ mw ≤ 10000) (hid : 0 ≤ id ∧ id ≤ 1048576) (hnow : 0 ≤ now ∧ now ≤ 1000000) : Calls Try.prog 21 #[.agg #[.int .i64 p, .int .i64 c, .int .i64 n, .int .i64 bd, .int .i64 r, .int .i64 f, .int .i64 g], .pointer (some ⟨b, 0, none⟩), .agg #[.int .i64 ma, .int .i64 mt, .int .i64 md, .int .i64 ms, .int .i64 mp, .int .i64 mw], .int .i64 id, .int .i64 now] w fun e w' => e = .returned (askA (askV c n mp mw id now N).1) ∧ Src w w' b (askV c n mp mw id now N).2 := by
  rcases kd_range (bl (nx N) 6) with h | h | h | h
  · rw [show askV c n mp mw id now N = ((1, id, bl (nx (nx (N))) c, bl (nx (nx (nx (nx (N))))) n, bl (nx (nx (nx (nx (nx (N)))))) 2, hold3 (mp + bl (nx (nx (nx (nx (nx (nx (N))))))) (2 * mw + 1) - mw), 1 + bl (nx (nx (nx (nx (nx (nx (nx (N)))))))) (1 + bl (nx (nx (nx (N)))) 9), hold2 (now + 1 + bl (nx (nx (nx (nx (nx (nx (nx (nx (N))))))))) 50), 1 + bl (nx (nx (nx (N)))) 9), nx (nx (nx (nx (nx (nx (nx (nx (N))))))))) from by unfold askV; rw [if_pos h]]
    rw [← hold2_hold now _ hnow.1 hnow.2 (bl_lo (nx (nx (nx (nx (nx (nx (nx (nx (N))))))))) 50)]
    exact ref_sub b N p c n bd r f g ma mt md ms mp mw id now w hc hf hcc hn hmp hmw hid hnow h
  · rw [show askV c n mp mw id now N = ((2, cid id (bl (nx (nx (nx (N)))) 3), bl (nx (nx (N))) c, 0, 0, 0, 0, 0, 0), nx (nx (nx (N)))) from by unfold askV; rw [if_neg (by omega), if_pos h]]
    rw [← cid_hold id _ hid.1 (bl_lo (nx (nx (nx (N)))) 3)]
    exact ref_can b N p c n bd r f g ma mt md ms mp mw id now w hc hf hcc hn hmp hmw hid hnow h
  · rw [show askV c n mp mw id now N = ((3, 0, bl (nx (nx (N))) c, 0, 0, 0, 0, 0, 0), nx (nx (N))) from by unfold askV; rw [if_neg (by omega), if_neg (by omega), h]]
    exact ref_look3 b N p c n bd r f g ma mt md ms mp mw id now w hc hf hcc hn hmp hmw hid hnow h
  · rw [show askV c n mp mw id now N = ((4, 0, bl (nx (nx (N))) c, 0, 0, 0, 0, 0, 0), nx (nx (N))) from by unfold askV; rw [if_neg (by omega), if_neg (by omega), h]]
    exact ref_look4 b N p c n bd r f g ma mt md ms mp mw id now w hc hf hcc hn hmp hmw hid hnow h
set_option maxHeartbeats 2000000 in
theorem fits_yes (ma mt md ms mp mw : Int) (w : World) (h : (-10000 ≤ ma ∧ ma ≤ 10000) ∧ (-10000 ≤ mt ∧ mt ≤ 10000) ∧ (-10000 ≤ md ∧ md ≤ 10000) ∧ (-10000 ≤ ms ∧ ms ≤ 10000) ∧ (-10000 ≤ mp ∧ mp ≤ 10000) ∧ (-10000 ≤ mw ∧ mw ≤ 10000)) (h0 : 0 ≤ mw) : Calls Try.prog 7 #[.agg #[.int .i64 ma, .int .i64 mt, .int .i64 md, .int .i64 ms, .int .i64 mp, .int .i64 mw]] w fun e w' => e = .returned (.bool true) ∧ Below w.heap.size w w' := by
  obtain ⟨⟨_, _⟩, ⟨_, _⟩, ⟨_, _⟩, ⟨_, _⟩, ⟨_, _⟩, ⟨_, _⟩⟩ := h
  have l0 : decide (ma < -10000) = false := decide_eq_false (by omega)
  have u0 : decide (10000 < ma) = false := decide_eq_false (by omega)
  have l1 : decide (mt < -10000) = false := decide_eq_false (by omega)
  have u1 : decide (10000 < mt) = false := decide_eq_false (by omega)
  have l2 : decide (md < -10000) = false := decide_eq_false (by omega)
  have u2 : decide (10000 < md) = false := decide_eq_false (by omega)
  have l3 : decide (ms < -10000) = false := decide_eq_false (by omega)
  have u3 : decide (10000 < ms) = false := decide_eq_false (by omega)
  have l4 : decide (mp < -10000) = false := decide_eq_false (by omega)
  have u4 : decide (10000 < mp) = false := decide_eq_false (by omega)
  have l5 : decide (mw < -10000) = false := decide_eq_false (by omega)
  have u5 : decide (10000 < mw) = false := decide_eq_false (by omega)
  go_enter Try.func7, Try.ntmps7
  go_wp2_with fail
  go_rounds 7
  all_goals first | (exfalso; omega) | (go_ret; exact ⟨rfl, by go_grown⟩)
set_option maxHeartbeats 2000000 in
theorem fits_neg (ma mt md ms mp mw : Int) (w : World) (h : (-10000 ≤ ma ∧ ma ≤ 10000) ∧ (-10000 ≤ mt ∧ mt ≤ 10000) ∧ (-10000 ≤ md ∧ md ≤ 10000) ∧ (-10000 ≤ ms ∧ ms ≤ 10000) ∧ (-10000 ≤ mp ∧ mp ≤ 10000) ∧ (-10000 ≤ mw ∧ mw ≤ 10000)) (h0 : mw < 0) : Calls Try.prog 7 #[.agg #[.int .i64 ma, .int .i64 mt, .int .i64 md, .int .i64 ms, .int .i64 mp, .int .i64 mw]] w fun e w' => e = .returned (.bool false) ∧ Below w.heap.size w w' := by
  obtain ⟨⟨_, _⟩, ⟨_, _⟩, ⟨_, _⟩, ⟨_, _⟩, ⟨_, _⟩, ⟨_, _⟩⟩ := h
  have l0 : decide (ma < -10000) = false := decide_eq_false (by omega)
  have u0 : decide (10000 < ma) = false := decide_eq_false (by omega)
  have l1 : decide (mt < -10000) = false := decide_eq_false (by omega)
  have u1 : decide (10000 < mt) = false := decide_eq_false (by omega)
  have l2 : decide (md < -10000) = false := decide_eq_false (by omega)
  have u2 : decide (10000 < md) = false := decide_eq_false (by omega)
  have l3 : decide (ms < -10000) = false := decide_eq_false (by omega)
  have u3 : decide (10000 < ms) = false := decide_eq_false (by omega)
  have l4 : decide (mp < -10000) = false := decide_eq_false (by omega)
  have u4 : decide (10000 < mp) = false := decide_eq_false (by omega)
  have l5 : decide (mw < -10000) = false := decide_eq_false (by omega)
  have u5 : decide (10000 < mw) = false := decide_eq_false (by omega)
  have h0d : decide (0 ≤ mw) = false := decide_eq_false (by omega)
  go_enter Try.func7, Try.ntmps7
  go_wp2_with fail
  go_rounds 7
  all_goals first | (exfalso; omega) | (go_ret; exact ⟨rfl, by go_grown⟩)
set_option maxHeartbeats 4000000 in
theorem fits_no (ma mt md ms mp mw : Int) (w : World) (h : ¬ ((-10000 ≤ ma ∧ ma ≤ 10000) ∧ (-10000 ≤ mt ∧ mt ≤ 10000) ∧ (-10000 ≤ md ∧ md ≤ 10000) ∧ (-10000 ≤ ms ∧ ms ≤ 10000) ∧ (-10000 ≤ mp ∧ mp ≤ 10000) ∧ (-10000 ≤ mw ∧ mw ≤ 10000))) : Calls Try.prog 7 #[.agg #[.int .i64 ma, .int .i64 mt, .int .i64 md, .int .i64 ms, .int .i64 mp, .int .i64 mw]] w fun e w' => e = .returned (.bool false) ∧ Below w.heap.size w w' := by
  have H := Lib.hid h
  clear h
  go_enter Try.func7, Try.ntmps7
  go_wp2_with fail
  go_rounds 7
  all_goals first | (exfalso; have h := H.out; omega) | (go_ret; exact ⟨rfl, by go_grown⟩)
end Go.Proofs.Ytgakgnofflnjoaa

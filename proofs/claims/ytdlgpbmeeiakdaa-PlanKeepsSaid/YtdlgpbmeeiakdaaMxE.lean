/-
  slices.DeleteFunc at rows of events: the whole; columns of rows.
-/
import Derived.Test.YtdlgpbmeeiakdaaRows
import Derived.Test.YtdlgpbmeeiakdaaKit
import Derived.Test.YtdlgpbmeeiakdaaApp
import Derived.Test.YtdlgpbmeeiakdaaEv
import Derived.Test.YtdlgpbmeeiakdaaEvP
import Derived.Test.YtdlgpbmeeiakdaaEvQ
import Derived.Test.YtdlgpbmeeiakdaaEvR
import Derived.Test.YtdlgpbmeeiakdaaQuiet
import Derived.Test.YtdlgpbmeeiakdaaPlA
import Derived.Test.YtdlgpbmeeiakdaaPlB
import Derived.Test.YtdlgpbmeeiakdaaPlF
import Derived.Test.YtdlgpbmeeiakdaaPlI
import Derived.Test.YtdlgpbmeeiakdaaMxA
import Derived.Test.YtdlgpbmeeiakdaaMxB
import Derived.Test.YtdlgpbmeeiakdaaMxC
import Derived.Test.YtdlgpbmeeiakdaaMxD
import Derived.WalkKit
import Derived.ProofKit
import Derived.OpenShut
import Derived.ShutString
import Derived.Below
import Derived.Outline
import Derived.WalkLawsBesides
import Derived.WalkSpells
import Derived.Handy
import Derived.Deep.QuietTactic
import Derived.BigQuiet
import Derived.RegionTactic
import Derived.ChangeAlike
import Derived.Lib.Hide
import Derived.Laws.Rows
import Derived.Laws.Tables
import Derived.Laws.CopyOwn
import Derived.Laws.MakeOwn
import Derived.Laws.Entries
import Derived.Laws.OwnMore
import Derived.Deep.WholeRow
import Derived.Deep.LoopGhost
import Derived.Deep.AppendLies
import Derived.Deep.Draws
import Derived.Maps.AppendAt
import Derived.OwnWalk
import Derived.Deep.RegionHeld3
import Derived.Deep.Cut
import Derived.Deep.CutRange
import Derived.Deep.DeepCutAuto
import Derived.Deep.CutBlock
import Derived.Lib.SliceRun
import Derived.IntWalk
namespace Go.Proofs.Ytdlgpbmeeiakdaa
open Go.ChangeShapes Go.WideShapes Go.ChangeAt Go.RowKit
theorem dst_of_own {w : World} {base g cap : Nat} {rs : List Rw} (h : w.ownsRow base 38 1 (.slice (some ⟨g, 0, none⟩) rs.length cap) rs.length (rs.map Rw.v)) : Dst w g cap rs [] 0 ∧ base ≤ g ∧ rs.length ≤ cap ∧ cap ≤ maxLen := by
  rcases h.2 with ⟨h0, _⟩ | ⟨g', cap', cur, h', hb, hg, hnc, hcm, hcs, htake⟩
  · cases h0
  · simp only [Value.slice.injEq, Option.some.injEq, Addr.mk.injEq, and_true, true_and] at h'
    obtain ⟨rfl, rfl⟩ := h'
    refine ⟨⟨cur, hg, by omega, fun t r ht => by simp at ht, fun t r _ hr => ?_, by simp⟩, hb, hnc, hcm⟩
    have hl := (List.getElem?_eq_some_iff.1 hr).1
    have h2 : (cur.toList.take (rs.length * 1))[t]? = some r.v := by rw [htake, List.getElem?_map, hr]; rfl
    rw [List.getElem?_take_of_lt (by omega), Array.getElem?_toList] at h2
    exact h2
set_option maxRecDepth 100000 in
set_option maxHeartbeats 2000000 in
theorem delete_none (g cap ib i : Nat) (rs : List Rw) (w : World) (h : RIn w g rs) (hl : rs.length ≤ 1000) (hi : w.cell? ⟨ib, 0, none⟩ = some (.int .i64 (i : Int))) (hib : ib < w.heap.size) (hn : ∀ (t : Nat) (r : Rw), rs[t]? = some r → i < r.L.length) :
    Calls Try.prog 50 #[.slice (some ⟨g, 0, none⟩) rs.length cap, (.func (.func 51) #[] #[.pointer (some ⟨ib, 0, none⟩)])] w fun e w' => e = .returned (.slice (some ⟨g, 0, none⟩) rs.length cap) ∧ Below w.heap.size w w' := by
  have HIX := Lib.hid (index_none g cap ib i rs w h hl hi hib hn)
  clear h hi hn
  go_enter Try.func50, Try.ntmps50
  go_wp2_with fail
  refine HIX.out.mono ?_
  rintro e w1 ⟨rfl, hb1⟩
  go_wp2_with fail
  go_ret
  exact ⟨rfl, hb1⟩
/-- What is left of a row of its own. -/
theorem delete_is (base g cap ib i : Nat) (rs : List Rw) (w : World) (h : w.ownsRow base 38 1 (.slice (some ⟨g, 0, none⟩) rs.length cap) rs.length (rs.map Rw.v)) (hl : rs.length ≤ 1000) (hi : w.cell? ⟨ib, 0, none⟩ = some (.int .i64 (i : Int))) (hib : ib < w.heap.size) (hig : ib ≠ g) :
    Calls Try.prog 50 #[.slice (some ⟨g, 0, none⟩) rs.length cap, (.func (.func 51) #[] #[.pointer (some ⟨ib, 0, none⟩)])] w fun e w' => e = .returned (.slice (some ⟨g, 0, none⟩) (rs.filter (kp i)).length cap) ∧ w'.ownsRow base 38 1 (.slice (some ⟨g, 0, none⟩) (rs.filter (kp i)).length cap) (rs.filter (kp i)).length ((rs.filter (kp i)).map Rw.v) ∧ But w w' g := by
  obtain ⟨hD, hbg, hc, hm⟩ := dst_of_own h
  by_cases hall : ∀ (t : Nat) (r : Rw), rs[t]? = some r → i < r.L.length
  · have hf : rs.filter (kp i) = rs := by
      have h1 := kp_all i rs.length rs (fun t r _ hr => hall t r hr)
      rwa [List.take_length] at h1
    rw [hf]
    refine (delete_none g cap ib i rs w ⟨hD.lt, fun t r hr => ?_⟩ hl hi hib hall).mono ?_
    · obtain ⟨cs, hh, _, _, h2, _⟩ := hD
      rw [cell_of_row _ _ _ _ _ _ hh]; exact h2 t r (Nat.zero_le _) hr
    · rintro e w' ⟨rfl, hb⟩
      exact ⟨rfl, row_kept h hb, But.of_below g hb⟩
  · -- the first that has come to its end
    have hex : ∃ t, t < rs.length ∧ ∀ r, rs[t]? = some r → r.L.length ≤ i := by
      apply Classical.byContradiction
      intro hne
      apply hall
      intro t r hr
      apply Classical.byContradiction
      intro hlt
      apply hne
      refine ⟨t, (List.getElem?_eq_some_iff.1 hr).1, fun r' hr' => ?_⟩
      rw [hr] at hr'
      injection hr' with hr'
      subst hr'
      omega
    have hmin : ∃ q, (q < rs.length ∧ ∀ r, rs[q]? = some r → r.L.length ≤ i) ∧ ∀ t, t < q → ∀ r, rs[t]? = some r → i < r.L.length := by
      obtain ⟨t, ht⟩ := hex
      induction t using Nat.strongRecOn with
      | _ t ih =>
        by_cases hx : ∃ s, s < t ∧ s < rs.length ∧ ∀ r, rs[s]? = some r → r.L.length ≤ i
        · obtain ⟨s, hst, hs⟩ := hx
          exact ih s hst hs
        · refine ⟨t, ht, fun s hst r hr => ?_⟩
          apply Classical.byContradiction
          intro hlt
          apply hx
          refine ⟨s, hst, (List.getElem?_eq_some_iff.1 hr).1, fun r' hr' => ?_⟩
          rw [hr] at hr'
          injection hr' with hr'
          subst hr'
          omega
    obtain ⟨q, ⟨hq1, hq2⟩, hq3⟩ := hmin
    have hq : rs[q]? = some rs[q] := List.getElem?_eq_getElem hq1
    refine (delete_some g cap ib i q rs rs[q] w hD hl hc hm hi hib hig hq (hq2 _ hq) (fun t r ht hr => hq3 t ht r hr)).mono ?_
    rintro e w' ⟨he, ho, hb⟩
    exact ⟨he, ⟨ho.1, ho.2.imp id fun ⟨g', c', cur, hv, hg', hr⟩ => ⟨g', c', cur, hv, Nat.le_trans hbg hg', hr⟩⟩, hb⟩
/-- Rows mixed: of each the next one, by turns; so many rounds. -/
def mxl (rs : List Rw) : Nat → List Int
  | 0 => []
  | k + 1 => mxl rs k ++ rs.filterMap (fun r => r.L[k]?)
theorem col_kp (k : Nat) : ∀ rs : List Rw, rs.filterMap (fun r => r.L[k]?) = (rs.filter (kp k)).filterMap (fun r => r.L[k]?)
  | [] => rfl
  | r :: rs => by
    have ih := col_kp k rs
    by_cases h : k < r.L.length
    · have hk : kp k r = true := by unfold kp; simpa using h
      rw [List.filter_cons_of_pos hk, List.filterMap_cons, List.filterMap_cons, ih]
    · have hk : ¬ kp k r = true := by unfold kp; simpa using h
      rw [List.filter_cons_of_neg hk, List.filterMap_cons, List.getElem?_eq_none (by omega)]
      exact ih
theorem kp_kp (i k : Nat) (h : i ≤ k) (rs : List Rw) : (rs.filter (kp i)).filter (kp k) = rs.filter (kp k) := by
  rw [List.filter_filter]
  congr 1
  funext r
  unfold kp
  by_cases h1 : k < r.L.length
  · simp [h1]; omega
  · simp [h1]
/-- Behind the longest row nothing more comes. -/
theorem mxl_end (rs : List Rw) (K : Nat) (h : ∀ r ∈ rs, r.L.length ≤ K) : ∀ M, K ≤ M → mxl rs M = mxl rs K := by
  intro M hM
  induction M with
  | zero => have : K = 0 := by omega
            subst this; rfl
  | succ M ih =>
    by_cases hK : K = M + 1
    · subst hK; rfl
    · show mxl rs M ++ _ = _
      rw [ih (by omega), List.filterMap_eq_nil_iff.2 (fun r hr => List.getElem?_eq_none (by have := h r hr; omega)), List.append_nil]
end Go.Proofs.Ytdlgpbmeeiakdaa

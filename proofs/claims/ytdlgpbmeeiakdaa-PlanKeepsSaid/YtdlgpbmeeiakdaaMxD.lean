/-
  slices.DeleteFunc at rows of events.
-/
import Derived.Test.YtdlgpbmeeiakdaaRows
import Derived.Test.YtdlgpbmeeiakdaaKit
import Derived.Test.YtdlgpbmeeiakdaaApp
import Derived.Test.YtdlgpbmeeiakdaaEv
import Derived.Test.YtdlgpbmeeiakdaaEvP
import Derived.Test.YtdlgpbmeeiakdaaEvQ
import Derived.Test.YtdlgpbmeeiakdaaEvR
import Derived.Test.YtdlgpbmeeiakdaaQuiet
import Derived.Test.YtdlgpbmeeiakdaaPlA
import Derived.Test.YtdlgpbmeeiakdaaPlB
import Derived.Test.YtdlgpbmeeiakdaaPlF
import Derived.Test.YtdlgpbmeeiakdaaPlI
import Derived.Test.YtdlgpbmeeiakdaaMxA
import Derived.Test.YtdlgpbmeeiakdaaMxB
import Derived.Test.YtdlgpbmeeiakdaaMxC
import Derived.WalkKit
import Derived.ProofKit
import Derived.OpenShut
import Derived.ShutString
import Derived.Below
import Derived.Outline
import Derived.WalkLawsBesides
import Derived.WalkSpells
import Derived.Handy
import Derived.Deep.QuietTactic
import Derived.BigQuiet
import Derived.RegionTactic
import Derived.ChangeAlike
import Derived.Lib.Hide
import Derived.Laws.Rows
import Derived.Laws.Tables
import Derived.Laws.CopyOwn
import Derived.Laws.MakeOwn
import Derived.Laws.Entries
import Derived.Laws.OwnMore
import Derived.Deep.WholeRow
import Derived.Deep.LoopGhost
import Derived.Deep.AppendLies
import Derived.Deep.Draws
import Derived.Maps.AppendAt
import Derived.OwnWalk
import Derived.Deep.RegionHeld3
import Derived.Deep.Cut
import Derived.Deep.CutRange
import Derived.Deep.DeepCutAuto
import Derived.Deep.CutBlock
import Derived.Lib.SliceRun
import Derived.IntWalk
namespace Go.Proofs.Ytdlgpbmeeiakdaa
open Go.ChangeShapes Go.WideShapes Go.ChangeAt Go.RowKit
def kp (i : Nat) (r : Rw) : Bool := decide (i < r.L.length)
theorem kp_take (i : Nat) (rs : List Rw) (j : Nat) (r : Rw) (h : rs[j]? = some r) : (rs.take (j + 1)).filter (kp i) = (rs.take j).filter (kp i) ++ (if kp i r then [r] else []) := by
  rw [List.take_add_one, h, List.filter_append]
  cases hp : kp i r <;> simp [hp]
theorem kp_all (i q : Nat) (rs : List Rw) (hn : ∀ (t : Nat) (r : Rw), t < q → rs[t]? = some r → i < r.L.length) : (rs.take q).filter (kp i) = rs.take q := by
  rw [List.filter_eq_self]
  intro r hr
  obtain ⟨t, ht, rfl⟩ := List.getElem_of_mem hr
  have htq : t < q := by rw [List.length_take] at ht; omega
  have htl : t < rs.length := by rw [List.length_take] at ht; omega
  unfold kp
  rw [decide_eq_true_eq, List.getElem_take]
  exact hn t rs[t] htq (List.getElem?_eq_getElem htl)
theorem zeroR (w : World) : (zeroValue 38).run Try.prog w = .ok (.slice none 0 0) w := by kernel_rfl
set_option maxRecDepth 100000 in
set_option maxHeartbeats 4000000 in
theorem delete_some (g cap ib i q : Nat) (rs : List Rw) (r0 : Rw) (w : World) (hD : Dst w g cap rs [] 0) (hl : rs.length ≤ 1000) (hc : rs.length ≤ cap) (hm : cap ≤ maxLen) (hi : w.cell? ⟨ib, 0, none⟩ = some (.int .i64 (i : Int))) (hib : ib < w.heap.size) (hig : ib ≠ g) (hq : rs[q]? = some r0) (hq0 : r0.L.length ≤ i) (hn : ∀ (t : Nat) (r : Rw), t < q → rs[t]? = some r → i < r.L.length) :
    Calls Try.prog 50 #[.slice (some ⟨g, 0, none⟩) rs.length cap, (.func (.func 51) #[] #[.pointer (some ⟨ib, 0, none⟩)])] w fun e w' => e = .returned (.slice (some ⟨g, 0, none⟩) (rs.filter (kp i)).length cap) ∧ w'.ownsRow g 38 1 (.slice (some ⟨g, 0, none⟩) (rs.filter (kp i)).length cap) (rs.filter (kp i)).length ((rs.filter (kp i)).map Rw.v) ∧ But w w' g := by
  have hR : RIn w g rs := ⟨hD.lt, fun t r hr => by
    obtain ⟨cs, hh, _, _, h2, _⟩ := hD
    rw [cell_of_row _ _ _ _ _ _ hh]; exact h2 t r (Nat.zero_le _) hr⟩
  have hql : q < rs.length := (List.getElem?_eq_some_iff.1 hq).1
  have hft : (rs.take (q + 1)).filter (kp i) = rs.take q := by
    rw [kp_take i rs q r0 hq, kp_all i q rs hn]
    unfold kp
    rw [if_neg (by simp; omega), List.append_nil]
  have hD1 : Dst w g cap rs ((rs.take (q + 1)).filter (kp i)) (q + 1) := by
    rw [hft]
    obtain ⟨cs, hh, hs, _, h2, _⟩ := hD
    refine ⟨cs, hh, hs, fun t r ht => ?_, fun t r _ hr => h2 t r (Nat.zero_le _) hr, by rw [List.length_take]; omega⟩
    have htq : t < q := by have := (List.getElem?_eq_some_iff.1 ht).1; rw [List.length_take] at this; omega
    rw [List.getElem?_take_of_lt htq] at ht
    exact h2 t r (Nat.zero_le _) ht
  have hfl : ((rs.take (q + 1)).filter (kp i)).length = q := by rw [hft, List.length_take]; omega
  have HIX := Lib.hid (index_some g cap ib i q rs r0 w hR hl hi hib hq hq0 hn)
  have HD1 := Lib.hid hD1
  have HFL := Lib.hid hfl
  have HI := Lib.hid hi
  have HC := Lib.hid (fun (r : Rw) W (h : W.cell? ⟨ib, 0, none⟩ = some (.int .i64 (i : Int))) => clo_is r ib i W h)
  have hgl := hD.lt
  have q0 : (0 : Int) ≤ (q : Int) := by omega
  have q1 : (q : Int) < (rs.length : Int) := by omega
  have q2 : (rs.length : Int) ≤ 1000 := by omega
  have hqd : ((q : Int) == -1) = false := by rw [beq_eq_false_iff_ne]; omega
  clear hD hR hft hD1 hfl hi hq hq0 hn
  go_enter Try.func50, Try.ntmps50
  go_wp2_with fail
  refine HIX.out.mono ?_
  rintro e w1 ⟨rfl, hb1⟩
  have HD2 := Lib.hid (HD1.out.below hb1)
  have hB1 := But.of_below g hb1
  clear hb1
  go_wp2_with fail
  go_loopw [5, 6] (fun c j wr => ∃ k : Nat, q + 1 ≤ k ∧ k ≤ rs.length ∧ c = .int .i64 (((rs.take k).filter (kp i)).length : Int) ∧ j = .int .i64 (k : Int) ∧ Hid (Dst wr g cap rs ((rs.take k).filter (kp i)) k) ∧ But w wr g) (fun _ j _ => rs.length + 1 - (intOf j).toNat)
  case atStart => exact ⟨q + 1, Nat.le_refl _, by omega, by rw [HFL.out], by go_num, HD2, hB1⟩
  case round =>
    clear HD2 hB1
    obtain ⟨k, hqk, hk, rfl, rfl, HD, hB⟩ := hrel
    have k0 : (0 : Int) ≤ (k : Int) := by omega
    have hfk : ((rs.take k).filter (kp i)).length ≤ k := Nat.le_trans (List.length_filter_le ..) (by rw [List.length_take]; omega)
    by_cases hlt : k < rs.length
    · have k1 : (k : Int) < (rs.length : Int) := by omega
      obtain ⟨r, hr⟩ : ∃ e, rs[k]? = some e := ⟨_, List.getElem?_eq_getElem hlt⟩
      have hcr : wr.cell? ⟨g, k, none⟩ = some (.slice r.A r.L.length r.cap) := HD.out.at_ r hr
      have HT := Lib.hid (kp_take i rs k r hr)
      have HRR := Lib.hid hr
      have hcl := (hB.cell (o := 0) hib hig).trans HI.out
      have HCR := Lib.hid (HC.out r wr hcl)
      have hfc := HD.out.cellF ((rs.take k).filter (kp i)).length (by omega)
      have HFC := Lib.hid hfc
      generalize (rs.take k).filter (kp i) = F at *
      have f0 : (0 : Int) ≤ (F.length : Int) := by omega
      have f1 : (F.length : Int) < (rs.length : Int) := by omega
      clear hr hcl hfc
      by_cases hlen : i < r.L.length
      · have HX := Lib.hid (show (rs.take (k + 1)).filter (kp i) = F ++ [r] from by rw [HT.out]; unfold kp; rw [if_pos (by simpa using hlen)])
        have hdd : decide (r.L.length ≤ i) = false := decide_eq_false (by omega)
        go_wp2_with fail
        refine HCR.out.mono ?_
        rintro e w2 ⟨rfl, hb2⟩
        rw [hdd]
        have HD2 := Lib.hid (HD.out.below hb2)
        have hB2 := hB.step (But.of_below g hb2)
        obtain ⟨y0', y1⟩ := HD2.out.cellF F.length (by omega)
        obtain ⟨u, y0⟩ := Option.isSome_iff_exists.1 y0'
        clear y0'
        have hgl2 := HD2.out.lt
        clear hb2 hB HD hcr
        go_wp2_with fail
        go_roundw
        case rel => exact ⟨k + 1, by omega, by omega, by rw [HX.out, List.length_append]; go_num, by go_num, by rw [HX.out]; exact Lib.hid (HD2.out.keep r HRR.out hc), hB2.step (But.set _ g F.length _)⟩
        case measure => simp [intOf]; omega
      · have HX := Lib.hid (show (rs.take (k + 1)).filter (kp i) = F from by rw [HT.out]; unfold kp; rw [if_neg (by simpa using hlen), List.append_nil])
        have hdd : decide (r.L.length ≤ i) = true := decide_eq_true (by omega)
        go_wp2_with fail
        refine HCR.out.mono ?_
        rintro e w2 ⟨rfl, hb2⟩
        rw [hdd]
        have HD2 := Lib.hid (HD.out.below hb2)
        have hB2 := hB.step (But.of_below g hb2)
        clear hb2 hB HD hcr
        go_wp2_with fail
        go_roundw
        case rel => exact ⟨k + 1, by omega, by omega, by rw [HX.out], by go_num, by rw [HX.out]; exact Lib.hid HD2.out.skip, hB2⟩
        case measure => simp [intOf]; omega
    · obtain rfl : k = rs.length := by omega
      have hd : decide ((rs.length : Int) < (rs.length : Int)) = false := decide_eq_false (by omega)
      rw [List.take_length] at *
      have hlt2 : (rs.filter (kp i)).length < rs.length := by
        have h1 := HFL.out
        have h2 : rs = rs.take (q + 1) ++ rs.drop (q + 1) := (List.take_append_drop ..).symm
        have h3 : (rs.filter (kp i)).length = ((rs.take (q + 1)).filter (kp i)).length + ((rs.drop (q + 1)).filter (kp i)).length := by
          conv => lhs; rw [h2, List.filter_append, List.length_append]
        have h4 := List.length_filter_le (kp i) (rs.drop (q + 1))
        rw [List.length_drop] at h4
        omega
      generalize hFF : rs.filter (kp i) = F at *
      have HFF := Lib.hid hFF
      clear hFF
      have f0 : (0 : Int) ≤ (F.length : Int) := by omega
      have f1 : (F.length : Int) < (rs.length : Int) := by omega
      have hclr : (Builtin.clear_ #[46] 0 #[.slice (some ⟨g, F.length, none⟩) (rs.length - F.length) (cap - F.length)]).run Try.prog wr = .ok (.tuple #[]) (wr.setCells g F.length (List.replicate (rs.length - F.length) (.slice none 0 0))) :=
        Lib.run_clear_slice wr 46 38 0 (.slice none 0 0) Try.underlying46 zeroR rfl rfl g F.length (rs.length - F.length) (cap - F.length) (by omega) (fun j hj => (HD.out.cellF (F.length + j) (by omega)).1) (fun j hj => (HD.out.cellF (F.length + j) (by omega)).2)
      go_wp2_with fail
      go_ret
      have hFF := HFF.out
      subst hFF
      exact ⟨rfl, HD.out.own _ (Nat.le_refl _) (by omega) hm, hB.step (But.setCells g _ _ wr)⟩
end Go.Proofs.Ytdlgpbmeeiakdaa

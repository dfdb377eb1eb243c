/-
  The document's Levels of a book.
-/
import Derived.Test.YtafignfoejefjaaRows
import Derived.Test.YtafignfoejefjaaKit
import Derived.Test.YtafignfoejefjaaApp
import Derived.Test.YtafignfoejefjaaQuiet
import Derived.WalkKit
import Derived.ProofKit
import Derived.OpenShut
import Derived.ShutString
import Derived.Below
import Derived.Outline
import Derived.WalkLawsBesides
import Derived.WalkSpells
import Derived.Handy
import Derived.Deep.QuietTactic
import Derived.BigQuiet
import Derived.RegionTactic
import Derived.ChangeAlike
import Derived.Lib.Hide
import Derived.Laws.Rows
import Derived.Laws.Tables
import Derived.Laws.CopyOwn
import Derived.Laws.MakeOwn
import Derived.Laws.Entries
import Derived.Laws.OwnMore
import Derived.Deep.WholeRow
import Derived.Deep.LoopGhost
import Derived.Deep.AppendLies
import Derived.Deep.Draws
import Derived.Maps.AppendAt
import Derived.OwnWalk
import Derived.Deep.RegionHeld3
import Derived.Deep.Cut
import Derived.Deep.CutRange
import Derived.Deep.DeepCutAuto
import Derived.Deep.CutBlock
import Derived.Lib.SliceRun
import Derived.IntWalk
import Derived.Test.YtafignfoejefjaaBkM
import Derived.Test.YtafignfoejefjaaBkO
import Derived.Test.YtafignfoejefjaaBkP
import Derived.Test.YtafignfoejefjaaBkQ
import Derived.Test.YtafignfoejefjaaBkL
import Derived.Test.YtafignfoejefjaaBkR
import Derived.Test.YtafignfoejefjaaBkS
import Derived.Test.YtafignfoejefjaaBkY
namespace Go.Proofs.Ytafignfoejefjaa
open Go.ChangeShapes Go.WideShapes Go.ChangeAt Go.RowKit
def pr (s k : Int) : Int := if s = 0 then 10000 - k else k
/-- The document's levels, price by price. -/
def refL (os : List Ord) (n s : Int) : Nat → List Lvl
  | 0 => []
  | k + 1 => refL os n s k ++ (if 0 < cnt (hitp n s (pr s ((k : Int) + 1))) os then [⟨pr s ((k : Int) + 1), sumq (hitp n s (pr s ((k : Int) + 1))) os, cnt (hitp n s (pr s ((k : Int) + 1))) os⟩] else [])
theorem refL_len (os : List Ord) (n s : Int) : ∀ k : Nat, (refL os n s k).length ≤ k
  | 0 => Nat.le_refl _
  | k + 1 => by
    have := refL_len os n s k
    simp only [refL, List.length_append]
    split <;> simp <;> omega
theorem refL_mem (os : List Ord) (n s : Int) : ∀ (k : Nat) (x : Lvl), x ∈ refL os n s k → ∃ j : Nat, 1 ≤ j ∧ j ≤ k ∧ x.p = pr s (j : Int) ∧ x = ⟨x.p, sumq (hitp n s x.p) os, cnt (hitp n s x.p) os⟩ ∧ 0 < x.k
  | 0, x, h => by simp [refL] at h
  | k + 1, x, h => by
    simp only [refL, List.mem_append] at h
    rcases h with h | h
    · obtain ⟨j, a, b, c⟩ := refL_mem os n s k x h
      exact ⟨j, a, by omega, c⟩
    · split at h
      · rename_i hp
        simp at h
        subst h
        exact ⟨k + 1, by omega, Nat.le_refl _, by simp, rfl, hp⟩
      · simp at h
theorem pr_bet {s : Int} (hs : s = 0 ∨ s = 1) {i j : Int} (h : i < j) : bet s (pr s i) (pr s j) = true := by
  rcases hs with rfl | rfl
  · simp [bet, pr]; omega
  · simp [bet, pr]; omega
theorem refL_srt (os : List Ord) (n s : Int) (hs : s = 0 ∨ s = 1) : ∀ k : Nat, (refL os n s k).Pairwise (fun x y => bet s x.p y.p = true)
  | 0 => List.Pairwise.nil
  | k + 1 => by
    simp only [refL]
    rw [List.pairwise_append]
    refine ⟨refL_srt os n s hs k, by split <;> simp, fun x hx y hy => ?_⟩
    obtain ⟨j, a, b, c, _⟩ := refL_mem os n s k x hx
    split at hy
    · simp at hy
      subst hy
      rw [c]
      exact pr_bet hs (by omega)
    · simp at hy
theorem refL_all (os : List Ord) (n s : Int) : ∀ (k j : Nat), 1 ≤ j → j ≤ k → 0 < cnt (hitp n s (pr s (j : Int))) os → ∃ x ∈ refL os n s k, x.p = pr s (j : Int)
  | 0, j, h1, h2, _ => by omega
  | k + 1, j, h1, h2, hp => by
    simp only [refL, List.mem_append]
    by_cases e : j = k + 1
    · subst e
      rw [show ((k + 1 : Nat) : Int) = (k : Int) + 1 from by omega] at hp ⊢
      rw [if_pos hp]
      exact ⟨_, Or.inr (List.mem_singleton.2 rfl), rfl⟩
    · obtain ⟨x, hx, e2⟩ := refL_all os n s k j h1 (by omega) hp
      exact ⟨x, Or.inl hx, e2⟩
theorem refL_is (os : List Ord) (n s : Int) (hs : s = 0 ∨ s = 1) (hF : Fine os) : LvIs os n s (refL os n s 9999) := by
  refine ⟨refL_srt os n s hs 9999, fun x hx => ?_, fun p hp => ?_⟩
  · obtain ⟨j, _, _, _, h⟩ := refL_mem os n s 9999 x hx
    exact h
  · obtain ⟨o, ho, hh⟩ := (cnt_pos _ os).1 hp
    have ep : o.p = p := by unfold hitp at hh; simp at hh; exact hh.2
    have hf := hF o ho
    rcases hs with rfl | rfl
    · have e : pr 0 ((10000 - p).toNat : Int) = p := by unfold pr; simp; omega
      obtain ⟨x, hx, hxp⟩ := refL_all os n 0 9999 (10000 - p).toNat (by omega) (by omega) (by rw [e]; exact hp)
      exact ⟨x, hx, by rw [hxp, e]⟩
    · have e : pr 1 (p.toNat : Int) = p := by unfold pr; simp; omega
      obtain ⟨x, hx, hxp⟩ := refL_all os n 1 9999 p.toNat (by omega) (by omega) (by rw [e]; exact hp)
      exact ⟨x, hx, by rw [hxp, e]⟩
theorem infoR1 : (Try.prog.info? 38).map (fun i => (i.zero, i.size, i.bytes)) = some (some (.agg #[.int .i64 0, .int .i64 0, .int .i64 0]), 3, 24) := by kernel_rfl
theorem own_far {w : World} {base : Nat} {e : TypeId} {size n LB : Nat} {v : Value} {xs : List Value} (h : w.ownsRow base e size v n xs) (hne : ∀ g, v.ownBlock = some g → g ≠ LB) (j : Nat) (u : Value) : (w.setCell ⟨LB, j, none⟩ u).ownsRow base e size v n xs := by
  refine ⟨h.1, ?_⟩
  rcases h.2 with h0 | ⟨g, cap, cur, hv, hb, hgh, hr⟩
  · exact .inl h0
  · exact .inr ⟨g, cap, cur, hv, hb, (Below.heap_setCell w ⟨LB, j, none⟩ u g (hne g (by rw [hv]; rfl))).trans hgh, hr⟩
set_option maxRecDepth 100000 in
set_option maxHeartbeats 8000000 in
theorem lvr_0 (A : Option Addr) (ln cp : Nat) (gv : Nat → Ord) (n : Int) (w : World) (hE : OrdsAt A ln gv w) (hl : ln ≤ 40) (hF : Fine (lst ln gv)) : Calls Try.prog 9 #[.slice A ln cp, .int .i64 n, .int .i64 0] w fun e w' => ∃ v, e = .returned v ∧ w'.ownsRow w.heap.size 38 3 v (refL (lst ln gv) n 0 9999).length (vv (refL (lst ln gv) n 0 9999)) ∧ Below w.heap.size w w' := by
  have HE := Lib.hid hE
  have HL := Lib.hid hl
  have HF := Lib.hid hF
  clear hE hl hF
  go_enter Try.func9, Try.ntmps9
  go_wp2_with fail
  go_loopw [7, 8] (fun v j wr => ∃ k : Nat, k ≤ 9999 ∧ j = .int .i64 ((k : Int) + 1) ∧ Hid (wr.ownsRow w.heap.size 38 3 v (refL (lst ln gv) n 0 k).length (vv (refL (lst ln gv) n 0 k)) ∧ Below w.heap.size w wr)) (fun _ j _ => 10001 - (intOf j).toNat)
  case atStart => exact ⟨0, Nat.zero_le _, rfl, Lib.hid ⟨⟨rfl, .inl ⟨rfl, rfl⟩⟩, Below.refl _ _⟩⟩
  case round =>
    obtain ⟨k, hk, rfl, HR⟩ := hrel
    obtain ⟨A2, c2, hv⟩ := oshape HR.out.1
    subst hv
    have k0 : (0 : Int) ≤ (k : Int) := by omega
    have k9 : (k : Int) ≤ 9999 := by omega
    by_cases hlt : k < 9999
    · have k8 : (k : Int) + 1 ≤ 9999 := by omega
      have hpr : pr 0 ((k : Int) + 1) = 10000 - ((k : Int) + 1) := by unfold pr; simp
      have Hk := Lib.hid hlt
      obtain ⟨PR, hPR⟩ : ∃ PR, PR = 10000 - ((k : Int) + 1) := ⟨_, rfl⟩
      have HPK := Lib.hid hPR
      have pp0 : 0 ≤ PR := by omega
      have pp1 : PR ≤ 9999 := by omega
      have HPR : Hid (PR = pr 0 ((k : Int) + 1)) := Lib.hid (by rw [hPR, hpr])
      have b0 := Bl.new wr [.int .i64 PR, .int .i64 0, .int .i64 0] 38
      have g0 : Below wr.heap.size wr (wr.alloc (.cells (List.toArray [.int .i64 PR, .int .i64 0, .int .i64 0]) 38)) := by go_grown
      have z0 : (wr.alloc (.cells (List.toArray [.int .i64 PR, .int .i64 0, .int .i64 0]) 38)).heap.size = wr.heap.size + 1 := World.size_alloc ..
      obtain ⟨LB, hLB⟩ : ∃ LB, LB = wr.heap.size := ⟨_, rfl⟩
      have lw : w.heap.size ≤ LB := by rw [hLB]; exact HR.out.2.size
      have HI0 : Hid (Bl LB [.int .i64 PR, .int .i64 0, .int .i64 0] (wr.alloc (.cells (List.toArray [.int .i64 PR, .int .i64 0, .int .i64 0]) 38)) ∧ (wr.alloc (.cells (List.toArray [.int .i64 PR, .int .i64 0, .int .i64 0]) 38)).ownsRow w.heap.size 38 3 (.slice A2 (refL (lst ln gv) n 0 k).length c2) (refL (lst ln gv) n 0 k).length (vv (refL (lst ln gv) n 0 k)) ∧ Below w.heap.size w (wr.alloc (.cells (List.toArray [.int .i64 PR, .int .i64 0, .int .i64 0]) 38)) ∧ LB < (wr.alloc (.cells (List.toArray [.int .i64 PR, .int .i64 0, .int .i64 0]) 38)).heap.size) := by rw [hLB]; exact Lib.hid ⟨b0, rkept HR.out.1 g0, Below.step HR.out.2 g0, by rw [z0]; omega⟩
      have HLW := Lib.hid lw
      have hrow : ∀ g, (Value.slice A2 (refL (lst ln gv) n 0 k).length c2).ownBlock = some g → g < LB := fun g e => by rw [hLB]; exact (HR.out.1.lt g e).2
      have HRW := Lib.hid hrow
      have HLB := Lib.hid hLB
      clear hpr hlt hk b0 g0 z0 hLB lw hrow
      rw [hPR] at HI0
      go_wp2_with fail
      rw [← HLB.out, ← hPR]
      rw [← hPR] at HI0
      clear hPR
      go_loopw [11] (fun j wx => ∃ q : Nat, q ≤ ln ∧ j = .int .i64 (q : Int) ∧ Hid (Bl LB [.int .i64 PR, .int .i64 (sumq (hitp n 0 PR) (lst q gv)), .int .i64 (cnt (hitp n 0 PR) (lst q gv))] wx ∧ wx.ownsRow w.heap.size 38 3 (.slice A2 (refL (lst ln gv) n 0 k).length c2) (refL (lst ln gv) n 0 k).length (vv (refL (lst ln gv) n 0 k)) ∧ Below w.heap.size w wx ∧ LB < wx.heap.size)) (fun j _ => ln + 1 - (intOf j).toNat)
      case atStart => exact ⟨0, Nat.zero_le _, rfl, HI0⟩
      case round =>
        clear HI0
        obtain ⟨q, hq, rfl, HX⟩ := hrel
        have q0 : (0 : Int) ≤ (q : Int) := by omega
        have x0 := HX.out.1.cell 0 _ rfl
        have x1 := HX.out.1.cell 1 _ rfl
        have x2 := HX.out.1.cell 2 _ rfl
        have z1 := HX.out.1.frz 1
        have z2 := HX.out.1.frz 2
        by_cases hlq : q < ln
        · obtain ⟨ad, rfl, hab, hcs⟩ := (HE.out.below HX.out.2.2.1) (by omega)
          have hcy := hcs q hlq
          clear hcs hab
          have q1 : (q : Int) < (ln : Int) := by omega
          have q2 : (ln : Int) ≤ 40 := by have := HL.out; omega
          obtain ⟨o, ho⟩ : ∃ o, o = gv q := ⟨_, rfl⟩
          rw [← ho] at hcy
          have dd0 := hcy 0 _ rfl
          rw [Nat.add_zero] at dd0
          have dd1 := hcy 1 _ rfl
          rw [← add_of_add, addp _ 1 (by decide) (World.cell?_spot dd0)] at dd1
          have dd2 := hcy 2 _ rfl
          rw [← add_of_add, addp _ 2 (by decide) (World.cell?_spot dd0)] at dd2
          have dd3 := hcy 3 _ rfl
          rw [← add_of_add, addp _ 3 (by decide) (World.cell?_spot dd0)] at dd3
          have dd4 := hcy 4 _ rfl
          rw [← add_of_add, addp _ 4 (by decide) (World.cell?_spot dd0)] at dd4
          have dd5 := hcy 5 _ rfl
          rw [← add_of_add, addp _ 5 (by decide) (World.cell?_spot dd0)] at dd5
          have dd6 := hcy 6 _ rfl
          rw [← add_of_add, addp _ 6 (by decide) (World.cell?_spot dd0)] at dd6
          have hof := HF.out o (List.mem_of_getElem? (by rw [ho]; exact lst_get ln gv q hlq))
          have v1 : 0 ≤ o.q := hof.2.2.1
          have v2 : o.q ≤ 9999 := hof.2.2.2
          have hft : Fine (lst q gv) := by rw [← lst_take ln gv q (by omega)]; exact HF.out.take q
          have sb := sumq_bd (hitp n 0 PR) (lst q gv) hft
          have cb := cnt_bd (hitp n 0 PR) (lst q gv)
          rw [lst_len] at sb cb
          have u1 : 0 ≤ sumq (hitp n 0 PR) (lst q gv) := sb.1
          have u2 : sumq (hitp n 0 PR) (lst q gv) ≤ 400000 := by have := sb.2; omega
          have u3 : 0 ≤ cnt (hitp n 0 PR) (lst q gv) := cb.1
          have u4 : cnt (hitp n 0 PR) (lst q gv) ≤ 40 := by have := cb.2; omega
          have HOO := Lib.hid ho
          have HQ := Lib.hid hlq
          clear hcy hof hft sb cb ho hlq hq
          rcases h1 : (o.n == n) with _ | _
          · have hh : (hitp n 0 PR) o = false := by unfold hitp; rw [h1]; rfl
            have HHH : Hid (hitp n 0 PR o = false) := Lib.hid hh
            clear hh
            go_wp2_with fail
            go_roundw
            case rel => exact ⟨q + 1, HQ.out, by go_num, Lib.hid (by rw [lst_succ, sumq_app, cnt_app, ← HOO.out]; simp only [sumq, cnt, HHH.out]; simpa using HX.out)⟩
            case measure => have := HQ.out; simp [intOf]; omega
          rcases h2 : (o.s == 0) with _ | _
          · have hh : (hitp n 0 PR) o = false := by unfold hitp; rw [h1, h2]; rfl
            have HHH : Hid (hitp n 0 PR o = false) := Lib.hid hh
            clear hh
            go_wp2_with fail
            go_roundw
            case rel => exact ⟨q + 1, HQ.out, by go_num, Lib.hid (by rw [lst_succ, sumq_app, cnt_app, ← HOO.out]; simp only [sumq, cnt, HHH.out]; simpa using HX.out)⟩
            case measure => have := HQ.out; simp [intOf]; omega
          rcases h3 : (o.p == PR) with _ | _
          · have hh : (hitp n 0 PR) o = false := by unfold hitp; rw [h1, h2, h3]; rfl
            have HHH : Hid (hitp n 0 PR o = false) := Lib.hid hh
            clear hh
            go_wp2_with fail
            go_roundw
            case rel => exact ⟨q + 1, HQ.out, by go_num, Lib.hid (by rw [lst_succ, sumq_app, cnt_app, ← HOO.out]; simp only [sumq, cnt, HHH.out]; simpa using HX.out)⟩
            case measure => have := HQ.out; simp [intOf]; omega
          · have hh : (hitp n 0 PR) o = true := by unfold hitp; rw [h1, h2, h3]; rfl
            have HHH : Hid (hitp n 0 PR o = true) := Lib.hid hh
            have hS : sumq (hitp n 0 PR) (lst (q + 1) gv) = sumq (hitp n 0 PR) (lst q gv) + o.q := by rw [lst_succ, sumq_app, ← HOO.out]; simp [sumq, HHH.out]
            have hC : cnt (hitp n 0 PR) (lst (q + 1) gv) = cnt (hitp n 0 PR) (lst q gv) + 1 := by rw [lst_succ, cnt_app, ← HOO.out]; simp [cnt, HHH.out]
            have HSC := Lib.hid (And.intro hS hC)
            have HNL : Hid (∀ g, (Value.slice A2 (refL (lst ln gv) n 0 k).length c2).ownBlock = some g → g ≠ LB) := Lib.hid (fun g e => by have := HRW.out g e; omega)
            clear hh hS hC
            obtain ⟨S1, hS1⟩ : ∃ S1, S1 = sumq (hitp n 0 PR) (lst q gv) := ⟨_, rfl⟩
            obtain ⟨S2, hS2⟩ : ∃ S2, S2 = cnt (hitp n 0 PR) (lst q gv) := ⟨_, rfl⟩
            rw [← hS1, ← hS2] at HX HSC
            rw [← hS1] at u1 u2 x1
            rw [← hS2] at u3 u4 x2
            clear hS1 hS2
            go_wp2_with fail
            go_region
            go_wp2_with fail
            go_roundw
            case rel =>
              refine ⟨q + 1, HQ.out, by go_num, Lib.hid ?_⟩
              rw [HSC.out.1, HSC.out.2]
              have hb1 := HX.out.1
              exact ⟨Bl.set (Bl.set hb1 1 (.int .i64 (S1 + o.q))) 2 (.int .i64 (S2 + 1)), own_far (own_far HX.out.2.1 HNL.out 1 _) HNL.out 2 _, (HX.out.2.2.1.setCell (p := ⟨LB, 1, none⟩) HLW.out (.int .i64 (S1 + o.q))).drew.setCell (p := ⟨LB, 2, none⟩) HLW.out _, by simp; exact HX.out.2.2.2⟩
            case measure => have := HQ.out; simp [intOf]; omega
        · have hke : q = ln := by omega
          subst hke
          have HLK := Lib.hid (refL_len (lst q gv) n 0 k)
          have cb := cnt_bd (hitp n 0 PR) (lst q gv)
          obtain ⟨S1, hS1⟩ : ∃ S1, S1 = sumq (hitp n 0 PR) (lst q gv) := ⟨_, rfl⟩
          obtain ⟨S2, hS2⟩ : ∃ S2, S2 = cnt (hitp n 0 PR) (lst q gv) := ⟨_, rfl⟩
          rw [← hS1, ← hS2] at HX
          rw [← hS1] at x1
          rw [← hS2] at x2 cb
          have HSS := Lib.hid (And.intro hS1 hS2)
          clear hS1 hS2 hq hlq q0
          by_cases hpos : 0 < S2
          · have HPOS := Lib.hid hpos
            obtain ⟨i0, hi, hz0, hz1, hz2⟩ := info_parts infoR1
            have HI := Lib.hid hi
            have HZ0 := Lib.hid hz0
            have HZ1 := Lib.hid hz1
            have HZ2 := Lib.hid hz2
            have hrd := reads_newN wr 1 3 [.int .i64 PR, .int .i64 S1, .int .i64 S2] 38 rfl
            have gV : Below wr.heap.size wr (wr.alloc (.cells (List.toArray [.int .i64 PR, .int .i64 S1, .int .i64 S2]) 38)) := by go_grown
            have HRd := Lib.hid hrd
            have HGV := Lib.hid gV
            have HOW := Lib.hid (rkept HX.out.2.1 gV)
            have NV := Lib.hid (vc_one ⟨PR, S1, S2⟩)
            have N1 := Lib.hid (show (refL (lst q gv) n 0 k).length + 1 ≤ maxLen from by have := HLK.out; have := Hk.out; unfold maxLen; omega)
            have N2 := Lib.hid (show ((refL (lst q gv) n 0 k).length + 1) * 24 ≤ 140737488355328 from by have := HLK.out; have := Hk.out; omega)
            have N3 := Lib.hid (show w.heap.size ≤ (wr.alloc (.cells (List.toArray [.int .i64 PR, .int .i64 S1, .int .i64 S2]) 38)).heap.size from by have := gV.size; have := HX.out.2.2.1.size; omega)
            clear hi hz0 hz1 hz2 hrd gV cb
            go_wp2_with (at_builtin; refine wpList_append_any _ rfl (.tmp 73) (.tmp 75) 35 rfl w.heap.size 38 i0 (Value.agg #[.int .i64 0, .int .i64 0, .int .i64 0]) 3 24 Try.underlying35 HI.out HZ0.out HZ1.out HZ2.out rfl (by decide) _ (refL (lst q gv) n 0 k).length _ rfl HOW.out _ (some ⟨wr.heap.size, 0, none⟩) 1 1 (vc ⟨PR, S1, S2⟩) rfl HRd.out NV.out N1.out N2.out N3.out ?_; intro v8 w8 hown8 hgrow8 hblk8; have HP := Lib.hid (And.intro hown8 hgrow8); clear hown8 hgrow8 hblk8)
            go_roundw
            case rel =>
              have e : refL (lst q gv) n 0 (k + 1) = refL (lst q gv) n 0 k ++ [⟨PR, S1, S2⟩] := by simp only [refL]; rw [← HPR.out, ← HSS.out.1, ← HSS.out.2, if_pos HPOS.out]
              refine ⟨k + 1, Hk.out, by first | (rw [HPK.out]; go_num) | go_num, Lib.hid ⟨?_, ?_⟩⟩
              · rw [e, List.length_append, vv_snoc]
                exact HP.out.1
              · have h1 := Below.step HX.out.2.2.1 HGV.out
                exact Below.grown h1 HP.out.2 h1.size (fun g e => (HOW.out.lt g e).1)
            case measure => have := Hk.out; have := HPK.out; simp [intOf]; omega
          · have hz : decide (0 < S2) = false := decide_eq_false hpos
            have HZ := Lib.hid hpos
            clear cb
            go_wp2_with fail
            go_roundw
            case rel =>
              refine ⟨k + 1, Hk.out, by first | (rw [HPK.out]; go_num) | go_num, Lib.hid ⟨?_, HX.out.2.2.1⟩⟩
              have e : refL (lst q gv) n 0 (k + 1) = refL (lst q gv) n 0 k := by simp only [refL]; rw [← HPR.out, ← HSS.out.2, if_neg HZ.out]; simp
              rw [e]; exact HX.out.2.1
            case measure => have := Hk.out; have := HPK.out; simp [intOf]; omega
    · have hke : k = 9999 := by omega
      subst hke
      go_wp2_with fail
      go_ret
      exact ⟨_, rfl, HR.out.1, HR.out.2⟩
set_option maxRecDepth 100000 in
set_option maxHeartbeats 8000000 in
theorem lvr_1 (A : Option Addr) (ln cp : Nat) (gv : Nat → Ord) (n : Int) (w : World) (hE : OrdsAt A ln gv w) (hl : ln ≤ 40) (hF : Fine (lst ln gv)) : Calls Try.prog 9 #[.slice A ln cp, .int .i64 n, .int .i64 1] w fun e w' => ∃ v, e = .returned v ∧ w'.ownsRow w.heap.size 38 3 v (refL (lst ln gv) n 1 9999).length (vv (refL (lst ln gv) n 1 9999)) ∧ Below w.heap.size w w' := by
  have HE := Lib.hid hE
  have HL := Lib.hid hl
  have HF := Lib.hid hF
  clear hE hl hF
  go_enter Try.func9, Try.ntmps9
  go_wp2_with fail
  go_loopw [7, 8] (fun v j wr => ∃ k : Nat, k ≤ 9999 ∧ j = .int .i64 ((k : Int) + 1) ∧ Hid (wr.ownsRow w.heap.size 38 3 v (refL (lst ln gv) n 1 k).length (vv (refL (lst ln gv) n 1 k)) ∧ Below w.heap.size w wr)) (fun _ j _ => 10001 - (intOf j).toNat)
  case atStart => exact ⟨0, Nat.zero_le _, rfl, Lib.hid ⟨⟨rfl, .inl ⟨rfl, rfl⟩⟩, Below.refl _ _⟩⟩
  case round =>
    obtain ⟨k, hk, rfl, HR⟩ := hrel
    obtain ⟨A2, c2, hv⟩ := oshape HR.out.1
    subst hv
    have k0 : (0 : Int) ≤ (k : Int) := by omega
    have k9 : (k : Int) ≤ 9999 := by omega
    by_cases hlt : k < 9999
    · have k8 : (k : Int) + 1 ≤ 9999 := by omega
      have hpr : pr 1 ((k : Int) + 1) = ((k : Int) + 1) := by unfold pr; simp
      have Hk := Lib.hid hlt
      obtain ⟨PR, hPR⟩ : ∃ PR, PR = ((k : Int) + 1) := ⟨_, rfl⟩
      have HPK := Lib.hid hPR
      have pp0 : 0 ≤ PR := by omega
      have pp1 : PR ≤ 9999 := by omega
      have HPR : Hid (PR = pr 1 ((k : Int) + 1)) := Lib.hid (by rw [hPR, hpr])
      have b0 := Bl.new wr [.int .i64 PR, .int .i64 0, .int .i64 0] 38
      have g0 : Below wr.heap.size wr (wr.alloc (.cells (List.toArray [.int .i64 PR, .int .i64 0, .int .i64 0]) 38)) := by go_grown
      have z0 : (wr.alloc (.cells (List.toArray [.int .i64 PR, .int .i64 0, .int .i64 0]) 38)).heap.size = wr.heap.size + 1 := World.size_alloc ..
      obtain ⟨LB, hLB⟩ : ∃ LB, LB = wr.heap.size := ⟨_, rfl⟩
      have lw : w.heap.size ≤ LB := by rw [hLB]; exact HR.out.2.size
      have HI0 : Hid (Bl LB [.int .i64 PR, .int .i64 0, .int .i64 0] (wr.alloc (.cells (List.toArray [.int .i64 PR, .int .i64 0, .int .i64 0]) 38)) ∧ (wr.alloc (.cells (List.toArray [.int .i64 PR, .int .i64 0, .int .i64 0]) 38)).ownsRow w.heap.size 38 3 (.slice A2 (refL (lst ln gv) n 1 k).length c2) (refL (lst ln gv) n 1 k).length (vv (refL (lst ln gv) n 1 k)) ∧ Below w.heap.size w (wr.alloc (.cells (List.toArray [.int .i64 PR, .int .i64 0, .int .i64 0]) 38)) ∧ LB < (wr.alloc (.cells (List.toArray [.int .i64 PR, .int .i64 0, .int .i64 0]) 38)).heap.size) := by rw [hLB]; exact Lib.hid ⟨b0, rkept HR.out.1 g0, Below.step HR.out.2 g0, by rw [z0]; omega⟩
      have HLW := Lib.hid lw
      have hrow : ∀ g, (Value.slice A2 (refL (lst ln gv) n 1 k).length c2).ownBlock = some g → g < LB := fun g e => by rw [hLB]; exact (HR.out.1.lt g e).2
      have HRW := Lib.hid hrow
      have HLB := Lib.hid hLB
      clear hpr hlt hk b0 g0 z0 hLB lw hrow
      rw [hPR] at HI0
      go_wp2_with fail
      rw [← HLB.out, ← hPR]
      rw [← hPR] at HI0
      clear hPR
      go_loopw [11] (fun j wx => ∃ q : Nat, q ≤ ln ∧ j = .int .i64 (q : Int) ∧ Hid (Bl LB [.int .i64 PR, .int .i64 (sumq (hitp n 1 PR) (lst q gv)), .int .i64 (cnt (hitp n 1 PR) (lst q gv))] wx ∧ wx.ownsRow w.heap.size 38 3 (.slice A2 (refL (lst ln gv) n 1 k).length c2) (refL (lst ln gv) n 1 k).length (vv (refL (lst ln gv) n 1 k)) ∧ Below w.heap.size w wx ∧ LB < wx.heap.size)) (fun j _ => ln + 1 - (intOf j).toNat)
      case atStart => exact ⟨0, Nat.zero_le _, rfl, HI0⟩
      case round =>
        clear HI0
        obtain ⟨q, hq, rfl, HX⟩ := hrel
        have q0 : (0 : Int) ≤ (q : Int) := by omega
        have x0 := HX.out.1.cell 0 _ rfl
        have x1 := HX.out.1.cell 1 _ rfl
        have x2 := HX.out.1.cell 2 _ rfl
        have z1 := HX.out.1.frz 1
        have z2 := HX.out.1.frz 2
        by_cases hlq : q < ln
        · obtain ⟨ad, rfl, hab, hcs⟩ := (HE.out.below HX.out.2.2.1) (by omega)
          have hcy := hcs q hlq
          clear hcs hab
          have q1 : (q : Int) < (ln : Int) := by omega
          have q2 : (ln : Int) ≤ 40 := by have := HL.out; omega
          obtain ⟨o, ho⟩ : ∃ o, o = gv q := ⟨_, rfl⟩
          rw [← ho] at hcy
          have dd0 := hcy 0 _ rfl
          rw [Nat.add_zero] at dd0
          have dd1 := hcy 1 _ rfl
          rw [← add_of_add, addp _ 1 (by decide) (World.cell?_spot dd0)] at dd1
          have dd2 := hcy 2 _ rfl
          rw [← add_of_add, addp _ 2 (by decide) (World.cell?_spot dd0)] at dd2
          have dd3 := hcy 3 _ rfl
          rw [← add_of_add, addp _ 3 (by decide) (World.cell?_spot dd0)] at dd3
          have dd4 := hcy 4 _ rfl
          rw [← add_of_add, addp _ 4 (by decide) (World.cell?_spot dd0)] at dd4
          have dd5 := hcy 5 _ rfl
          rw [← add_of_add, addp _ 5 (by decide) (World.cell?_spot dd0)] at dd5
          have dd6 := hcy 6 _ rfl
          rw [← add_of_add, addp _ 6 (by decide) (World.cell?_spot dd0)] at dd6
          have hof := HF.out o (List.mem_of_getElem? (by rw [ho]; exact lst_get ln gv q hlq))
          have v1 : 0 ≤ o.q := hof.2.2.1
          have v2 : o.q ≤ 9999 := hof.2.2.2
          have hft : Fine (lst q gv) := by rw [← lst_take ln gv q (by omega)]; exact HF.out.take q
          have sb := sumq_bd (hitp n 1 PR) (lst q gv) hft
          have cb := cnt_bd (hitp n 1 PR) (lst q gv)
          rw [lst_len] at sb cb
          have u1 : 0 ≤ sumq (hitp n 1 PR) (lst q gv) := sb.1
          have u2 : sumq (hitp n 1 PR) (lst q gv) ≤ 400000 := by have := sb.2; omega
          have u3 : 0 ≤ cnt (hitp n 1 PR) (lst q gv) := cb.1
          have u4 : cnt (hitp n 1 PR) (lst q gv) ≤ 40 := by have := cb.2; omega
          have HOO := Lib.hid ho
          have HQ := Lib.hid hlq
          clear hcy hof hft sb cb ho hlq hq
          rcases h1 : (o.n == n) with _ | _
          · have hh : (hitp n 1 PR) o = false := by unfold hitp; rw [h1]; rfl
            have HHH : Hid (hitp n 1 PR o = false) := Lib.hid hh
            clear hh
            go_wp2_with fail
            go_roundw
            case rel => exact ⟨q + 1, HQ.out, by go_num, Lib.hid (by rw [lst_succ, sumq_app, cnt_app, ← HOO.out]; simp only [sumq, cnt, HHH.out]; simpa using HX.out)⟩
            case measure => have := HQ.out; simp [intOf]; omega
          rcases h2 : (o.s == 1) with _ | _
          · have hh : (hitp n 1 PR) o = false := by unfold hitp; rw [h1, h2]; rfl
            have HHH : Hid (hitp n 1 PR o = false) := Lib.hid hh
            clear hh
            go_wp2_with fail
            go_roundw
            case rel => exact ⟨q + 1, HQ.out, by go_num, Lib.hid (by rw [lst_succ, sumq_app, cnt_app, ← HOO.out]; simp only [sumq, cnt, HHH.out]; simpa using HX.out)⟩
            case measure => have := HQ.out; simp [intOf]; omega
          rcases h3 : (o.p == PR) with _ | _
          · have hh : (hitp n 1 PR) o = false := by unfold hitp; rw [h1, h2, h3]; rfl
            have HHH : Hid (hitp n 1 PR o = false) := Lib.hid hh
            clear hh
            go_wp2_with fail
            go_roundw
            case rel => exact ⟨q + 1, HQ.out, by go_num, Lib.hid (by rw [lst_succ, sumq_app, cnt_app, ← HOO.out]; simp only [sumq, cnt, HHH.out]; simpa using HX.out)⟩
            case measure => have := HQ.out; simp [intOf]; omega
          · have hh : (hitp n 1 PR) o = true := by unfold hitp; rw [h1, h2, h3]; rfl
            have HHH : Hid (hitp n 1 PR o = true) := Lib.hid hh
            have hS : sumq (hitp n 1 PR) (lst (q + 1) gv) = sumq (hitp n 1 PR) (lst q gv) + o.q := by rw [lst_succ, sumq_app, ← HOO.out]; simp [sumq, HHH.out]
            have hC : cnt (hitp n 1 PR) (lst (q + 1) gv) = cnt (hitp n 1 PR) (lst q gv) + 1 := by rw [lst_succ, cnt_app, ← HOO.out]; simp [cnt, HHH.out]
            have HSC := Lib.hid (And.intro hS hC)
            have HNL : Hid (∀ g, (Value.slice A2 (refL (lst ln gv) n 1 k).length c2).ownBlock = some g → g ≠ LB) := Lib.hid (fun g e => by have := HRW.out g e; omega)
            clear hh hS hC
            obtain ⟨S1, hS1⟩ : ∃ S1, S1 = sumq (hitp n 1 PR) (lst q gv) := ⟨_, rfl⟩
            obtain ⟨S2, hS2⟩ : ∃ S2, S2 = cnt (hitp n 1 PR) (lst q gv) := ⟨_, rfl⟩
            rw [← hS1, ← hS2] at HX HSC
            rw [← hS1] at u1 u2 x1
            rw [← hS2] at u3 u4 x2
            clear hS1 hS2
            go_wp2_with fail
            go_region
            go_wp2_with fail
            go_roundw
            case rel =>
              refine ⟨q + 1, HQ.out, by go_num, Lib.hid ?_⟩
              rw [HSC.out.1, HSC.out.2]
              have hb1 := HX.out.1
              exact ⟨Bl.set (Bl.set hb1 1 (.int .i64 (S1 + o.q))) 2 (.int .i64 (S2 + 1)), own_far (own_far HX.out.2.1 HNL.out 1 _) HNL.out 2 _, (HX.out.2.2.1.setCell (p := ⟨LB, 1, none⟩) HLW.out (.int .i64 (S1 + o.q))).drew.setCell (p := ⟨LB, 2, none⟩) HLW.out _, by simp; exact HX.out.2.2.2⟩
            case measure => have := HQ.out; simp [intOf]; omega
        · have hke : q = ln := by omega
          subst hke
          have HLK := Lib.hid (refL_len (lst q gv) n 1 k)
          have cb := cnt_bd (hitp n 1 PR) (lst q gv)
          obtain ⟨S1, hS1⟩ : ∃ S1, S1 = sumq (hitp n 1 PR) (lst q gv) := ⟨_, rfl⟩
          obtain ⟨S2, hS2⟩ : ∃ S2, S2 = cnt (hitp n 1 PR) (lst q gv) := ⟨_, rfl⟩
          rw [← hS1, ← hS2] at HX
          rw [← hS1] at x1
          rw [← hS2] at x2 cb
          have HSS := Lib.hid (And.intro hS1 hS2)
          clear hS1 hS2 hq hlq q0
          by_cases hpos : 0 < S2
          · have HPOS := Lib.hid hpos
            obtain ⟨i0, hi, hz0, hz1, hz2⟩ := info_parts infoR1
            have HI := Lib.hid hi
            have HZ0 := Lib.hid hz0
            have HZ1 := Lib.hid hz1
            have HZ2 := Lib.hid hz2
            have hrd := reads_newN wr 1 3 [.int .i64 PR, .int .i64 S1, .int .i64 S2] 38 rfl
            have gV : Below wr.heap.size wr (wr.alloc (.cells (List.toArray [.int .i64 PR, .int .i64 S1, .int .i64 S2]) 38)) := by go_grown
            have HRd := Lib.hid hrd
            have HGV := Lib.hid gV
            have HOW := Lib.hid (rkept HX.out.2.1 gV)
            have NV := Lib.hid (vc_one ⟨PR, S1, S2⟩)
            have N1 := Lib.hid (show (refL (lst q gv) n 1 k).length + 1 ≤ maxLen from by have := HLK.out; have := Hk.out; unfold maxLen; omega)
            have N2 := Lib.hid (show ((refL (lst q gv) n 1 k).length + 1) * 24 ≤ 140737488355328 from by have := HLK.out; have := Hk.out; omega)
            have N3 := Lib.hid (show w.heap.size ≤ (wr.alloc (.cells (List.toArray [.int .i64 PR, .int .i64 S1, .int .i64 S2]) 38)).heap.size from by have := gV.size; have := HX.out.2.2.1.size; omega)
            clear hi hz0 hz1 hz2 hrd gV cb
            go_wp2_with (at_builtin; refine wpList_append_any _ rfl (.tmp 73) (.tmp 75) 35 rfl w.heap.size 38 i0 (Value.agg #[.int .i64 0, .int .i64 0, .int .i64 0]) 3 24 Try.underlying35 HI.out HZ0.out HZ1.out HZ2.out rfl (by decide) _ (refL (lst q gv) n 1 k).length _ rfl HOW.out _ (some ⟨wr.heap.size, 0, none⟩) 1 1 (vc ⟨PR, S1, S2⟩) rfl HRd.out NV.out N1.out N2.out N3.out ?_; intro v8 w8 hown8 hgrow8 hblk8; have HP := Lib.hid (And.intro hown8 hgrow8); clear hown8 hgrow8 hblk8)
            go_roundw
            case rel =>
              have e : refL (lst q gv) n 1 (k + 1) = refL (lst q gv) n 1 k ++ [⟨PR, S1, S2⟩] := by simp only [refL]; rw [← HPR.out, ← HSS.out.1, ← HSS.out.2, if_pos HPOS.out]
              refine ⟨k + 1, Hk.out, by first | (rw [HPK.out]; go_num) | go_num, Lib.hid ⟨?_, ?_⟩⟩
              · rw [e, List.length_append, vv_snoc]
                exact HP.out.1
              · have h1 := Below.step HX.out.2.2.1 HGV.out
                exact Below.grown h1 HP.out.2 h1.size (fun g e => (HOW.out.lt g e).1)
            case measure => have := Hk.out; have := HPK.out; simp [intOf]; omega
          · have hz : decide (0 < S2) = false := decide_eq_false hpos
            have HZ := Lib.hid hpos
            clear cb
            go_wp2_with fail
            go_roundw
            case rel =>
              refine ⟨k + 1, Hk.out, by first | (rw [HPK.out]; go_num) | go_num, Lib.hid ⟨?_, HX.out.2.2.1⟩⟩
              have e : refL (lst q gv) n 1 (k + 1) = refL (lst q gv) n 1 k := by simp only [refL]; rw [← HPR.out, ← HSS.out.2, if_neg HZ.out]; simp
              rw [e]; exact HX.out.2.1
            case measure => have := Hk.out; have := HPK.out; simp [intOf]; omega
    · have hke : k = 9999 := by omega
      subst hke
      go_wp2_with fail
      go_ret
      exact ⟨_, rfl, HR.out.1, HR.out.2⟩
end Go.Proofs.Ytafignfoejefjaa

/-
  The price at which most could be exchanged, as the document has it.
-/
import Derived.Test.YtafignfoejefjaaRows
import Derived.Test.YtafignfoejefjaaKit
import Derived.Test.YtafignfoejefjaaApp
import Derived.Test.YtafignfoejefjaaQuiet
import Derived.WalkKit
import Derived.ProofKit
import Derived.OpenShut
import Derived.ShutString
import Derived.Below
import Derived.Outline
import Derived.WalkLawsBesides
import Derived.WalkSpells
import Derived.Handy
import Derived.Deep.QuietTactic
import Derived.BigQuiet
import Derived.RegionTactic
import Derived.ChangeAlike
import Derived.Lib.Hide
import Derived.Laws.Rows
import Derived.Laws.Tables
import Derived.Laws.CopyOwn
import Derived.Laws.MakeOwn
import Derived.Laws.Entries
import Derived.Laws.OwnMore
import Derived.Deep.WholeRow
import Derived.Deep.LoopGhost
import Derived.Deep.AppendLies
import Derived.Deep.Draws
import Derived.Maps.AppendAt
import Derived.OwnWalk
import Derived.Deep.RegionHeld3
import Derived.Deep.Cut
import Derived.Deep.CutRange
import Derived.Deep.DeepCutAuto
import Derived.Deep.CutBlock
import Derived.Lib.SliceRun
import Derived.IntWalk
import Derived.Test.YtafignfoejefjaaBkM
import Derived.Test.YtafignfoejefjaaBkO
import Derived.Test.YtafignfoejefjaaBkP
import Derived.Test.YtafignfoejefjaaBkQ
import Derived.Test.YtafignfoejefjaaBkL
import Derived.Test.YtafignfoejefjaaBkR
import Derived.Test.YtafignfoejefjaaBkCa
namespace Go.Proofs.Ytafignfoejefjaa
open Go.ChangeShapes Go.WideShapes Go.ChangeAt Go.RowKit
/-- Whether an order of a name and a side stands at a price. -/
def atF (nm P : Int) (o : Ord) : Bool := o.n == nm && ((o.s == 0 || o.s == 1) && o.p == P)
theorem at_iff (nm P : Int) (os : List Ord) : os.any (atF nm P) = true ↔ SideP os nm P := by
  rw [List.any_eq_true]
  unfold SideP atF
  constructor
  · rintro ⟨o, h, h2⟩
    simp only [Bool.and_eq_true, Bool.or_eq_true, beq_iff_eq] at h2
    exact ⟨o, h, h2.1, h2.2.1, h2.2.2⟩
  · rintro ⟨o, h, h1, h2, h3⟩
    refine ⟨o, h, ?_⟩
    simp only [Bool.and_eq_true, Bool.or_eq_true, beq_iff_eq]
    exact ⟨h1, h2, h3⟩
theorem at_snoc (nm P : Int) (os : List Ord) (o : Ord) : (os ++ [o]).any (atF nm P) = (os.any (atF nm P) || atF nm P o) := by
  rw [List.any_append]; simp
theorem rc_yes {os : List Ord} {nm : Int} {k : Nat} {E : Int} (h1 : SideP os nm ((k : Int) + 1)) (h2 : E = exv os nm ((k : Int) + 1)) (h3 : (rc os nm k).2 < E) : rc os nm (k + 1) = ((k : Int) + 1, E) := by
  simp only [rc]; rw [if_pos ⟨h1, by rw [← h2]; exact h3⟩, h2]
theorem rc_no {os : List Ord} {nm : Int} {k : Nat} (h1 : ¬ SideP os nm ((k : Int) + 1)) : rc os nm (k + 1) = rc os nm k := by
  simp only [rc]; rw [if_neg (fun h => h1 h.1)]
theorem rc_low {os : List Ord} {nm : Int} {k : Nat} {E : Int} (h2 : E = exv os nm ((k : Int) + 1)) (h3 : ¬ (rc os nm k).2 < E) : rc os nm (k + 1) = rc os nm k := by
  simp only [rc]; rw [if_neg (fun h => h3 (by rw [h2]; exact h.2))]
set_option maxRecDepth 100000 in
set_option maxHeartbeats 8000000 in
theorem rcross_is (A : Option Addr) (ln cp : Nat) (gv : Nat → Ord) (nm : Int) (w : World) (hE : OrdsAt A ln gv w) (hl : ln ≤ 40) (hF : Fine (lst ln gv)) : Calls Try.prog 15 #[.slice A ln cp, .int .i64 nm] w fun e w' => e = .returned (.tuple #[.int .i64 (rc (lst ln gv) nm 9999).1, .int .i64 (rc (lst ln gv) nm 9999).2]) ∧ Below w.heap.size w w' := by
  have HE := Lib.hid hE
  have HL := Lib.hid hl
  have HF := Lib.hid hF
  clear hE hl hF
  go_enter Try.func15, Try.ntmps15
  go_wp2_with fail
  go_loopw [6, 7, 8] (fun x y j wr => ∃ k : Nat, k ≤ 9999 ∧ j = .int .i64 ((k : Int) + 1) ∧ x = .int .i64 (rc (lst ln gv) nm k).1 ∧ y = .int .i64 (rc (lst ln gv) nm k).2 ∧ Hid (Below w.heap.size w wr)) (fun _ _ j _ => 10001 - (intOf j).toNat)
  case atStart => exact ⟨0, Nat.zero_le _, rfl, rfl, rfl, Lib.hid (Below.refl _ _)⟩
  case round =>
    obtain ⟨k, hk, rfl, rfl, rfl, HR⟩ := hrel
    have k0 : (0 : Int) ≤ (k : Int) := by omega
    have k9 : (k : Int) ≤ 9999 := by omega
    by_cases hlt : k < 9999
    · have k8 : (k : Int) + 1 ≤ 9999 := by omega
      have Hk := Lib.hid hlt
      obtain ⟨PR, hPR⟩ : ∃ PR, PR = (k : Int) + 1 := ⟨_, rfl⟩
      have HPK := Lib.hid hPR
      have pp0 : 1 ≤ PR := by omega
      have pp1 : PR ≤ 9999 := by omega
      have HRY := Lib.hid (fun (E : Int) => @rc_yes (lst ln gv) nm k E)
      have HRN := Lib.hid (@rc_no (lst ln gv) nm k)
      have HRL := Lib.hid (fun (E : Int) => @rc_low (lst ln gv) nm k E)
      rw [← hPR] at HRY HRN HRL
      obtain ⟨X, hX⟩ : ∃ X, X = rc (lst ln gv) nm k := ⟨_, rfl⟩
      rw [← hX] at HRY HRN HRL ⊢
      have HX := Lib.hid hX
      clear hX hlt hk
      go_wp2_with fail
      rw [← hPR]
      clear hPR k0 k9 k8
      go_loopw [9, 10, 11, 12] (fun x y a j wx => ∃ q : Nat, q ≤ ln ∧ j = .int .i64 (q : Int) ∧ x = .int .i64 (sumq (buyF nm PR) (lst q gv)) ∧ y = .int .i64 (sumq (sellF nm PR) (lst q gv)) ∧ a = .bool ((lst q gv).any (atF nm PR)) ∧ Hid (Below w.heap.size w wx)) (fun _ _ _ j _ => ln + 1 - (intOf j).toNat)
      case atStart => exact ⟨0, Nat.zero_le _, rfl, rfl, rfl, rfl, HR⟩
      case round =>
        obtain ⟨q, hq, rfl, rfl, rfl, rfl, HZ⟩ := hrel
        have q0 : (0 : Int) ≤ (q : Int) := by omega
        have hft : Fine (lst q gv) := by rw [← lst_take ln gv q (by omega)]; exact HF.out.take q
        have sb := sumq_bd (buyF nm PR) (lst q gv) hft
        have sc := sumq_bd (sellF nm PR) (lst q gv) hft
        rw [lst_len] at sb sc
        have u1 : 0 ≤ (sumq (buyF nm PR) (lst q gv)) := sb.1
        have u2 : (sumq (buyF nm PR) (lst q gv)) ≤ 400000 := by have := sb.2; have := HL.out; omega
        have u3 : 0 ≤ (sumq (sellF nm PR) (lst q gv)) := sc.1
        have u4 : (sumq (sellF nm PR) (lst q gv)) ≤ 400000 := by have := sc.2; have := HL.out; omega
        clear hft sb sc
        by_cases hlq : q < ln
        · obtain ⟨ad, rfl, hab, hcs⟩ := (HE.out.below HZ.out) (by omega)
          have hcy := hcs q hlq
          clear hcs
          have habw : (ad.add (q * 7)).block < wr.heap.size := by rw [block_of_add]; exact hab
          have q1 : (q : Int) < (ln : Int) := by omega
          have q2 : (ln : Int) ≤ 40 := by have := HL.out; omega
          obtain ⟨o, ho⟩ : ∃ o, o = gv q := ⟨_, rfl⟩
          rw [← ho] at hcy
          have d0 : wr.cell? (ad.add (q * 7)) = some (.int .i64 o.c) := hcy 0 _ rfl
          have d1 : wr.cell? ⟨(ad.add (q * 7)).block, (ad.add (q * 7)).off + 1, none⟩ = some (.int .i64 o.n) := by rw [← addp _ 1 (by decide) (World.cell?_spot d0), add_of_add]; exact hcy 1 _ rfl
          have d2 : wr.cell? ⟨(ad.add (q * 7)).block, (ad.add (q * 7)).off + 2, none⟩ = some (.int .i64 o.s) := by rw [← addp _ 2 (by decide) (World.cell?_spot d0), add_of_add]; exact hcy 2 _ rfl
          have d3 : wr.cell? ⟨(ad.add (q * 7)).block, (ad.add (q * 7)).off + 3, none⟩ = some (.int .i64 o.p) := by rw [← addp _ 3 (by decide) (World.cell?_spot d0), add_of_add]; exact hcy 3 _ rfl
          have d4 : wr.cell? ⟨(ad.add (q * 7)).block, (ad.add (q * 7)).off + 4, none⟩ = some (.int .i64 o.l) := by rw [← addp _ 4 (by decide) (World.cell?_spot d0), add_of_add]; exact hcy 4 _ rfl
          have d5 : wr.cell? ⟨(ad.add (q * 7)).block, (ad.add (q * 7)).off + 5, none⟩ = some (.int .i64 o.u) := by rw [← addp _ 5 (by decide) (World.cell?_spot d0), add_of_add]; exact hcy 5 _ rfl
          have d6 : wr.cell? ⟨(ad.add (q * 7)).block, (ad.add (q * 7)).off + 6, none⟩ = some (.int .i64 o.q) := by rw [← addp _ 6 (by decide) (World.cell?_spot d0), add_of_add]; exact hcy 6 _ rfl
          have hof := HF.out o (List.mem_of_getElem? (by rw [ho]; exact lst_get ln gv q hlq))
          have v1 : 0 ≤ o.q := hof.2.2.1
          have v2 : o.q ≤ 9999 := hof.2.2.2
          have HQ := Lib.hid hlq
          have HSX : Hid (sumq (buyF nm PR) (lst (q + 1) gv) = (sumq (buyF nm PR) (lst q gv)) + (if buyF nm PR o = true then o.q else 0) ∧ sumq (sellF nm PR) (lst (q + 1) gv) = (sumq (sellF nm PR) (lst q gv)) + (if sellF nm PR o = true then o.q else 0) ∧ (lst (q + 1) gv).any (atF nm PR) = (((lst q gv).any (atF nm PR)) || atF nm PR o)) := Lib.hid (by rw [lst_succ, sumq_app, sumq_app, at_snoc, ← ho]; simp [sumq])
          have gO : Below wr.heap.size wr (wr.alloc (.cells (List.toArray [.int .i64 o.n, .int .i64 o.s, .int .i64 o.p, .int .i64 o.l, .int .i64 o.u]) 48)) := by go_grown
          have HGO := Lib.hid gO
          clear gO hof hcy hab ho hlq hq HE HF HRY HRN HRL
          generalize (sumq (buyF nm PR) (lst q gv)) = S1 at *
          generalize (sumq (sellF nm PR) (lst q gv)) = S2 at *
          generalize ((lst q gv).any (atF nm PR)) = AB at *
          by_cases hn : o.n = nm
          rotate_left
          · have n1 : (o.n != nm) = true := by rw [bne_iff_ne]; exact hn
            have n0 : (o.n == nm) = false := beq_eq_false_iff_ne.2 hn
            have f0 : buyF nm PR o = false := by unfold buyF; rw [n0]; rfl
            have f1 : sellF nm PR o = false := by unfold sellF; rw [n0]; rfl
            have f2 : atF nm PR o = false := by unfold atF; rw [n0]; rfl
            have HFF := Lib.hid (And.intro f0 (And.intro f1 f2))
            clear hn n0 f0 f1 f2
            go_wp2_with fail
            go_roundw
            case rel => exact ⟨q + 1, HQ.out, by go_num, by rw [HSX.out.1, HFF.out.1]; simp, by rw [HSX.out.2.1, HFF.out.2.1]; simp, by rw [HSX.out.2.2, HFF.out.2.2]; simp, Lib.hid (Below.step HZ.out HGO.out)⟩
            case measure => have := HQ.out; simp [intOf]; omega
          have n1 : (o.n != nm) = false := by rw [hn]; simp
          have n0 : (o.n == nm) = true := by rw [hn]; simp
          by_cases hs : o.s ≠ 0 ∧ o.s ≠ 1
          · have s0 : (o.s == 0) = false := beq_eq_false_iff_ne.2 hs.1
            have s1 : (o.s == 1) = false := beq_eq_false_iff_ne.2 hs.2
            have t0 : (o.s != 0) = true := by rw [bne_iff_ne]; exact hs.1
            have t1 : (o.s != 1) = true := by rw [bne_iff_ne]; exact hs.2
            have f0 : buyF nm PR o = false := by unfold buyF; rw [s0]; simp
            have f1 : sellF nm PR o = false := by unfold sellF; rw [s1]; simp
            have f2 : atF nm PR o = false := by unfold atF; rw [s0, s1]; simp
            have HFF := Lib.hid (And.intro f0 (And.intro f1 f2))
            clear hn hs n0 s0 s1 f0 f1 f2
            go_wp2_with fail
            go_roundw
            case rel => exact ⟨q + 1, HQ.out, by go_num, by rw [HSX.out.1, HFF.out.1]; simp, by rw [HSX.out.2.1, HFF.out.2.1]; simp, by rw [HSX.out.2.2, HFF.out.2.2]; simp, Lib.hid (Below.step HZ.out HGO.out)⟩
            case measure => have := HQ.out; simp [intOf]; omega
          rcases (show o.s = 0 ∨ o.s = 1 by omega) with es | es
          · rw [es] at d2 HGO
            rcases AB with _ | _
            · rcases (show o.p < PR ∨ o.p = PR ∨ PR < o.p by omega) with hc | hc | hc
              · have f0 : buyF nm PR o = false := by unfold buyF; rw [es, n0]; simp; omega
                have f1 : sellF nm PR o = false := by unfold sellF; rw [es, n0]; simp
                have f2 : atF nm PR o = false := by unfold atF; rw [es, n0]; simp; omega
                have b1 : (o.p == PR) = false := by simp; omega
                have b2 : decide (PR ≤ o.p) = false := by simp; omega
                have b3 : decide (o.p ≤ PR) = true := by simp; omega
                have HFF := Lib.hid (And.intro f0 (And.intro f1 f2))
                clear hn hs n0 f0 f1 f2 es hc
                go_wp2_with fail
                go_roundw
                case rel => exact ⟨q + 1, HQ.out, by go_num, by rw [HSX.out.1, HFF.out.1]; simp, by rw [HSX.out.2.1, HFF.out.2.1]; simp, by rw [HSX.out.2.2, HFF.out.2.2]; simp, Lib.hid (Below.step HZ.out HGO.out)⟩
                case measure => have := HQ.out; simp [intOf]; omega
              · have f0 : buyF nm PR o = true := by unfold buyF; rw [es, n0]; simp; omega
                have f1 : sellF nm PR o = false := by unfold sellF; rw [es, n0]; simp
                have f2 : atF nm PR o = true := by unfold atF; rw [es, n0]; simp; omega
                have b1 : (o.p == PR) = true := by simp; omega
                have b2 : decide (PR ≤ o.p) = true := by simp; omega
                have b3 : decide (o.p ≤ PR) = true := by simp; omega
                have HFF := Lib.hid (And.intro f0 (And.intro f1 f2))
                clear hn hs n0 f0 f1 f2 es hc
                go_wp2_with fail
                go_roundw
                case rel => exact ⟨q + 1, HQ.out, by go_num, by rw [HSX.out.1, HFF.out.1]; simp, by rw [HSX.out.2.1, HFF.out.2.1]; simp, by rw [HSX.out.2.2, HFF.out.2.2]; simp, Lib.hid (Below.step HZ.out HGO.out)⟩
                case measure => have := HQ.out; simp [intOf]; omega
              · have f0 : buyF nm PR o = true := by unfold buyF; rw [es, n0]; simp; omega
                have f1 : sellF nm PR o = false := by unfold sellF; rw [es, n0]; simp
                have f2 : atF nm PR o = false := by unfold atF; rw [es, n0]; simp; omega
                have b1 : (o.p == PR) = false := by simp; omega
                have b2 : decide (PR ≤ o.p) = true := by simp; omega
                have b3 : decide (o.p ≤ PR) = false := by simp; omega
                have HFF := Lib.hid (And.intro f0 (And.intro f1 f2))
                clear hn hs n0 f0 f1 f2 es hc
                go_wp2_with fail
                go_roundw
                case rel => exact ⟨q + 1, HQ.out, by go_num, by rw [HSX.out.1, HFF.out.1]; simp, by rw [HSX.out.2.1, HFF.out.2.1]; simp, by rw [HSX.out.2.2, HFF.out.2.2]; simp, Lib.hid (Below.step HZ.out HGO.out)⟩
                case measure => have := HQ.out; simp [intOf]; omega
            · rcases (show o.p < PR ∨ o.p = PR ∨ PR < o.p by omega) with hc | hc | hc
              · have f0 : buyF nm PR o = false := by unfold buyF; rw [es, n0]; simp; omega
                have f1 : sellF nm PR o = false := by unfold sellF; rw [es, n0]; simp
                have f2 : atF nm PR o = false := by unfold atF; rw [es, n0]; simp; omega
                have b1 : (o.p == PR) = false := by simp; omega
                have b2 : decide (PR ≤ o.p) = false := by simp; omega
                have b3 : decide (o.p ≤ PR) = true := by simp; omega
                have HFF := Lib.hid (And.intro f0 (And.intro f1 f2))
                clear hn hs n0 f0 f1 f2 es hc
                go_wp2_with fail
                go_roundw
                case rel => exact ⟨q + 1, HQ.out, by go_num, by rw [HSX.out.1, HFF.out.1]; simp, by rw [HSX.out.2.1, HFF.out.2.1]; simp, by rw [HSX.out.2.2, HFF.out.2.2]; simp, Lib.hid (Below.step HZ.out HGO.out)⟩
                case measure => have := HQ.out; simp [intOf]; omega
              · have f0 : buyF nm PR o = true := by unfold buyF; rw [es, n0]; simp; omega
                have f1 : sellF nm PR o = false := by unfold sellF; rw [es, n0]; simp
                have f2 : atF nm PR o = true := by unfold atF; rw [es, n0]; simp; omega
                have b1 : (o.p == PR) = true := by simp; omega
                have b2 : decide (PR ≤ o.p) = true := by simp; omega
                have b3 : decide (o.p ≤ PR) = true := by simp; omega
                have HFF := Lib.hid (And.intro f0 (And.intro f1 f2))
                clear hn hs n0 f0 f1 f2 es hc
                go_wp2_with fail
                go_roundw
                case rel => exact ⟨q + 1, HQ.out, by go_num, by rw [HSX.out.1, HFF.out.1]; simp, by rw [HSX.out.2.1, HFF.out.2.1]; simp, by rw [HSX.out.2.2, HFF.out.2.2]; simp, Lib.hid (Below.step HZ.out HGO.out)⟩
                case measure => have := HQ.out; simp [intOf]; omega
              · have f0 : buyF nm PR o = true := by unfold buyF; rw [es, n0]; simp; omega
                have f1 : sellF nm PR o = false := by unfold sellF; rw [es, n0]; simp
                have f2 : atF nm PR o = false := by unfold atF; rw [es, n0]; simp; omega
                have b1 : (o.p == PR) = false := by simp; omega
                have b2 : decide (PR ≤ o.p) = true := by simp; omega
                have b3 : decide (o.p ≤ PR) = false := by simp; omega
                have HFF := Lib.hid (And.intro f0 (And.intro f1 f2))
                clear hn hs n0 f0 f1 f2 es hc
                go_wp2_with fail
                go_roundw
                case rel => exact ⟨q + 1, HQ.out, by go_num, by rw [HSX.out.1, HFF.out.1]; simp, by rw [HSX.out.2.1, HFF.out.2.1]; simp, by rw [HSX.out.2.2, HFF.out.2.2]; simp, Lib.hid (Below.step HZ.out HGO.out)⟩
                case measure => have := HQ.out; simp [intOf]; omega
          · rw [es] at d2 HGO
            rcases AB with _ | _
            · rcases (show o.p < PR ∨ o.p = PR ∨ PR < o.p by omega) with hc | hc | hc
              · have f0 : buyF nm PR o = false := by unfold buyF; rw [es, n0]; simp
                have f1 : sellF nm PR o = true := by unfold sellF; rw [es, n0]; simp; omega
                have f2 : atF nm PR o = false := by unfold atF; rw [es, n0]; simp; omega
                have b1 : (o.p == PR) = false := by simp; omega
                have b2 : decide (PR ≤ o.p) = false := by simp; omega
                have b3 : decide (o.p ≤ PR) = true := by simp; omega
                have HFF := Lib.hid (And.intro f0 (And.intro f1 f2))
                clear hn hs n0 f0 f1 f2 es hc
                go_wp2_with fail
                go_roundw
                case rel => exact ⟨q + 1, HQ.out, by go_num, by rw [HSX.out.1, HFF.out.1]; simp, by rw [HSX.out.2.1, HFF.out.2.1]; simp, by rw [HSX.out.2.2, HFF.out.2.2]; simp, Lib.hid (Below.step HZ.out HGO.out)⟩
                case measure => have := HQ.out; simp [intOf]; omega
              · have f0 : buyF nm PR o = false := by unfold buyF; rw [es, n0]; simp
                have f1 : sellF nm PR o = true := by unfold sellF; rw [es, n0]; simp; omega
                have f2 : atF nm PR o = true := by unfold atF; rw [es, n0]; simp; omega
                have b1 : (o.p == PR) = true := by simp; omega
                have b2 : decide (PR ≤ o.p) = true := by simp; omega
                have b3 : decide (o.p ≤ PR) = true := by simp; omega
                have HFF := Lib.hid (And.intro f0 (And.intro f1 f2))
                clear hn hs n0 f0 f1 f2 es hc
                go_wp2_with fail
                go_roundw
                case rel => exact ⟨q + 1, HQ.out, by go_num, by rw [HSX.out.1, HFF.out.1]; simp, by rw [HSX.out.2.1, HFF.out.2.1]; simp, by rw [HSX.out.2.2, HFF.out.2.2]; simp, Lib.hid (Below.step HZ.out HGO.out)⟩
                case measure => have := HQ.out; simp [intOf]; omega
              · have f0 : buyF nm PR o = false := by unfold buyF; rw [es, n0]; simp
                have f1 : sellF nm PR o = false := by unfold sellF; rw [es, n0]; simp; omega
                have f2 : atF nm PR o = false := by unfold atF; rw [es, n0]; simp; omega
                have b1 : (o.p == PR) = false := by simp; omega
                have b2 : decide (PR ≤ o.p) = true := by simp; omega
                have b3 : decide (o.p ≤ PR) = false := by simp; omega
                have HFF := Lib.hid (And.intro f0 (And.intro f1 f2))
                clear hn hs n0 f0 f1 f2 es hc
                go_wp2_with fail
                go_roundw
                case rel => exact ⟨q + 1, HQ.out, by go_num, by rw [HSX.out.1, HFF.out.1]; simp, by rw [HSX.out.2.1, HFF.out.2.1]; simp, by rw [HSX.out.2.2, HFF.out.2.2]; simp, Lib.hid (Below.step HZ.out HGO.out)⟩
                case measure => have := HQ.out; simp [intOf]; omega
            · rcases (show o.p < PR ∨ o.p = PR ∨ PR < o.p by omega) with hc | hc | hc
              · have f0 : buyF nm PR o = false := by unfold buyF; rw [es, n0]; simp
                have f1 : sellF nm PR o = true := by unfold sellF; rw [es, n0]; simp; omega
                have f2 : atF nm PR o = false := by unfold atF; rw [es, n0]; simp; omega
                have b1 : (o.p == PR) = false := by simp; omega
                have b2 : decide (PR ≤ o.p) = false := by simp; omega
                have b3 : decide (o.p ≤ PR) = true := by simp; omega
                have HFF := Lib.hid (And.intro f0 (And.intro f1 f2))
                clear hn hs n0 f0 f1 f2 es hc
                go_wp2_with fail
                go_roundw
                case rel => exact ⟨q + 1, HQ.out, by go_num, by rw [HSX.out.1, HFF.out.1]; simp, by rw [HSX.out.2.1, HFF.out.2.1]; simp, by rw [HSX.out.2.2, HFF.out.2.2]; simp, Lib.hid (Below.step HZ.out HGO.out)⟩
                case measure => have := HQ.out; simp [intOf]; omega
              · have f0 : buyF nm PR o = false := by unfold buyF; rw [es, n0]; simp
                have f1 : sellF nm PR o = true := by unfold sellF; rw [es, n0]; simp; omega
                have f2 : atF nm PR o = true := by unfold atF; rw [es, n0]; simp; omega
                have b1 : (o.p == PR) = true := by simp; omega
                have b2 : decide (PR ≤ o.p) = true := by simp; omega
                have b3 : decide (o.p ≤ PR) = true := by simp; omega
                have HFF := Lib.hid (And.intro f0 (And.intro f1 f2))
                clear hn hs n0 f0 f1 f2 es hc
                go_wp2_with fail
                go_roundw
                case rel => exact ⟨q + 1, HQ.out, by go_num, by rw [HSX.out.1, HFF.out.1]; simp, by rw [HSX.out.2.1, HFF.out.2.1]; simp, by rw [HSX.out.2.2, HFF.out.2.2]; simp, Lib.hid (Below.step HZ.out HGO.out)⟩
                case measure => have := HQ.out; simp [intOf]; omega
              · have f0 : buyF nm PR o = false := by unfold buyF; rw [es, n0]; simp
                have f1 : sellF nm PR o = false := by unfold sellF; rw [es, n0]; simp; omega
                have f2 : atF nm PR o = false := by unfold atF; rw [es, n0]; simp; omega
                have b1 : (o.p == PR) = false := by simp; omega
                have b2 : decide (PR ≤ o.p) = true := by simp; omega
                have b3 : decide (o.p ≤ PR) = false := by simp; omega
                have HFF := Lib.hid (And.intro f0 (And.intro f1 f2))
                clear hn hs n0 f0 f1 f2 es hc
                go_wp2_with fail
                go_roundw
                case rel => exact ⟨q + 1, HQ.out, by go_num, by rw [HSX.out.1, HFF.out.1]; simp, by rw [HSX.out.2.1, HFF.out.2.1]; simp, by rw [HSX.out.2.2, HFF.out.2.2]; simp, Lib.hid (Below.step HZ.out HGO.out)⟩
                case measure => have := HQ.out; simp [intOf]; omega
        · have hke : q = ln := by omega
          subst hke
          have HIF : Hid ((((lst q gv).any (atF nm PR)) = true ↔ SideP (lst q gv) nm PR) ∧ exv (lst q gv) nm PR = min (sumq (buyF nm PR) (lst q gv)) (sumq (sellF nm PR) (lst q gv))) := Lib.hid ⟨at_iff nm PR (lst q gv), rfl⟩
          clear HE HF HR hq hlq q0
          generalize (sumq (buyF nm PR) (lst q gv)) = S1 at *
          generalize (sumq (sellF nm PR) (lst q gv)) = S2 at *
          generalize ((lst q gv).any (atF nm PR)) = AB at *
          by_cases hm : S2 < S1
          · have HEE := Lib.hid (show S2 = exv (lst q gv) nm PR by rw [HIF.out.2]; omega)
            rcases AB with _ | _
            · have HH := Lib.hid (HRN.out (fun h => by have := HIF.out.1.2 h; cases this))
              clear HRY HRL HIF
              go_wp2_with fail
              go_roundw
              case rel => exact ⟨k + 1, Hk.out, by first | (rw [HPK.out]; go_num) | go_num, by rw [HH.out], by rw [HH.out], HZ⟩
              case measure => have := Hk.out; have := HPK.out; simp [intOf]; omega
            by_cases hg : X.2 < S2
            · have HH := Lib.hid (HRY.out S2 (HIF.out.1.1 rfl) HEE.out hg)
              clear HRN HRL HIF
              go_wp2_with fail
              go_roundw
              case rel => exact ⟨k + 1, Hk.out, by first | (rw [HPK.out]; go_num) | go_num, by rw [HH.out], by rw [HH.out], HZ⟩
              case measure => have := Hk.out; have := HPK.out; simp [intOf]; omega
            · have HH := Lib.hid (HRL.out S2 HEE.out (by omega))
              have dg : decide (X.2 < S2) = false := decide_eq_false hg
              clear HRN HRY HIF hg
              go_wp2_with fail
              go_roundw
              case rel => exact ⟨k + 1, Hk.out, by first | (rw [HPK.out]; go_num) | go_num, by rw [HH.out], by rw [HH.out], HZ⟩
              case measure => have := Hk.out; have := HPK.out; simp [intOf]; omega
          · have HEE := Lib.hid (show S1 = exv (lst q gv) nm PR by rw [HIF.out.2]; omega)
            have dm : decide (S2 < S1) = false := decide_eq_false hm
            rcases AB with _ | _
            · have HH := Lib.hid (HRN.out (fun h => by have := HIF.out.1.2 h; cases this))
              clear hm HRY HRL HIF
              go_wp2_with fail
              go_roundw
              case rel => exact ⟨k + 1, Hk.out, by first | (rw [HPK.out]; go_num) | go_num, by rw [HH.out], by rw [HH.out], HZ⟩
              case measure => have := Hk.out; have := HPK.out; simp [intOf]; omega
            by_cases hg : X.2 < S1
            · have HH := Lib.hid (HRY.out S1 (HIF.out.1.1 rfl) HEE.out hg)
              clear hm HRN HRL HIF
              go_wp2_with fail
              go_roundw
              case rel => exact ⟨k + 1, Hk.out, by first | (rw [HPK.out]; go_num) | go_num, by rw [HH.out], by rw [HH.out], HZ⟩
              case measure => have := Hk.out; have := HPK.out; simp [intOf]; omega
            · have HH := Lib.hid (HRL.out S1 HEE.out (by omega))
              have dg : decide (X.2 < S1) = false := decide_eq_false hg
              clear hm HRN HRY HIF hg
              go_wp2_with fail
              go_roundw
              case rel => exact ⟨k + 1, Hk.out, by first | (rw [HPK.out]; go_num) | go_num, by rw [HH.out], by rw [HH.out], HZ⟩
              case measure => have := Hk.out; have := HPK.out; simp [intOf]; omega
    · have hke : k = 9999 := by omega
      subst hke
      obtain ⟨X, hX⟩ : ∃ X, X = rc (lst ln gv) nm 9999 := ⟨_, rfl⟩
      rw [← hX]
      have HX := Lib.hid hX
      clear hk hlt hX
      go_wp2_with fail
      go_ret2
      exact ⟨by first | rfl | (rw [← HX.out]; rfl), HR.out⟩
end Go.Proofs.Ytafignfoejefjaa

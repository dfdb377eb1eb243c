/-
  Runs of events.
-/
import Derived.Test.YtdlgpbmeeiakdaaRows
import Derived.Test.YtdlgpbmeeiakdaaKit
import Derived.Test.YtdlgpbmeeiakdaaApp
import Derived.Test.YtdlgpbmeeiakdaaEv
import Derived.Test.YtdlgpbmeeiakdaaEvP
import Derived.Test.YtdlgpbmeeiakdaaEvQ
import Derived.Test.YtdlgpbmeeiakdaaEvR
import Derived.Test.YtdlgpbmeeiakdaaQuiet
import Derived.Test.YtdlgpbmeeiakdaaPlA
import Derived.Test.YtdlgpbmeeiakdaaPlB
import Derived.WalkKit
import Derived.ProofKit
import Derived.OpenShut
import Derived.ShutString
import Derived.Below
import Derived.Outline
import Derived.WalkLawsBesides
import Derived.WalkSpells
import Derived.Handy
import Derived.Deep.QuietTactic
import Derived.BigQuiet
import Derived.RegionTactic
import Derived.ChangeAlike
import Derived.Lib.Hide
import Derived.Laws.Rows
import Derived.Laws.Tables
import Derived.Laws.CopyOwn
import Derived.Laws.MakeOwn
import Derived.Laws.Entries
import Derived.Laws.OwnMore
import Derived.Deep.WholeRow
import Derived.Deep.LoopGhost
import Derived.Deep.AppendLies
import Derived.Deep.Draws
import Derived.Maps.AppendAt
import Derived.OwnWalk
import Derived.Deep.RegionHeld3
import Derived.Deep.Cut
import Derived.Deep.CutRange
import Derived.Deep.DeepCutAuto
import Derived.Deep.CutBlock
import Derived.Lib.SliceRun
import Derived.IntWalk
namespace Go.Proofs.Ytdlgpbmeeiakdaa
open Go.ChangeShapes Go.WideShapes Go.ChangeAt Go.RowKit
theorem infoA : (Try.prog.info? 57).map (fun i => (i.zero, i.size, i.bytes)) = some (some (.agg #[.int .i64 0, .int .i64 0]), 2, 16) := by kernel_rfl
/-- What 'Runs' hands back. -/
def RRow (B : Nat) (L : List (Int × Int)) (w : World) (e : Ending) (w' : World) : Prop := ∃ v, e = .returned v ∧ w'.ownsRow B 57 2 v L.length (prl L) ∧ Below w.heap.size w w'
set_option maxRecDepth 100000 in
set_option maxHeartbeats 8000000 in
theorem runs_is (A : Option Addr) (cap : Nat) (l : List Ev) (w : World) (h : EAt w A l) (hl : l.length ≤ 100000) :
    Calls Try.prog 30 #[.slice A l.length cap] w (RRow w.heap.size (rsE l l.length) w) := by
  have H := Lib.hid h
  obtain ⟨i0, hi, hz0, hz1, hz2⟩ := info_parts infoA
  have HI := Lib.hid hi
  have HZ0 := Lib.hid hz0
  have HZ1 := Lib.hid hz1
  have HZ2 := Lib.hid hz2
  clear hi hz0 hz1 hz2 h
  go_enter Try.func30, Try.ntmps30
  go_wp2_with fail
  go_loopw [3, 8] (fun v i wr => ∃ k : Nat, k ≤ l.length ∧ i = .int .i64 (k : Int) ∧ Hid (wr.ownsRow w.heap.size 57 2 v (rsE l k).length (prl (rsE l k))) ∧ Below w.heap.size w wr) (fun _ i _ => l.length + 1 - (intOf i).toNat)
  case atStart => exact ⟨0, Nat.zero_le _, rfl, ⟨rfl, .inl ⟨rfl, rfl⟩⟩, Below.refl _ _⟩
  case round =>
    obtain ⟨k, hk, rfl, HO, hB⟩ := hrel
    have hs := hB.size
    by_cases hlt : k < l.length
    · obtain ⟨ev, hev⟩ : ∃ e, l[k]? = some e := ⟨_, List.getElem?_eq_getElem hlt⟩
      obtain ⟨g, hA, hg, c0, c1, c2, c3, c4, c5, c6, c7, c8, c9, c10, c11⟩ := H.out.cells k ev hev
      obtain ⟨ek, ex, en⟩ := ev
      dsimp only at c0 c1 c2
      have d0 := (hB.cell (p := ⟨g, k * 12, none⟩) hg).trans c0
      have d1 := (hB.cell (p := ⟨g, k * 12 + 1, none⟩) hg).trans c1
      have d2 := (hB.cell (p := ⟨g, k * 12 + 2, none⟩) hg).trans c2
      have d3 := (hB.cell (p := ⟨g, k * 12 + 3, none⟩) hg).trans c3
      have d4 := (hB.cell (p := ⟨g, k * 12 + 4, none⟩) hg).trans c4
      have d5 := (hB.cell (p := ⟨g, k * 12 + 5, none⟩) hg).trans c5
      have d6 := (hB.cell (p := ⟨g, k * 12 + 6, none⟩) hg).trans c6
      have d7 := (hB.cell (p := ⟨g, k * 12 + 7, none⟩) hg).trans c7
      have d8 := (hB.cell (p := ⟨g, k * 12 + 8, none⟩) hg).trans c8
      have d9 := (hB.cell (p := ⟨g, k * 12 + 9, none⟩) hg).trans c9
      have d10 := (hB.cell (p := ⟨g, k * 12 + 10, none⟩) hg).trans c10
      have d11 := (hB.cell (p := ⟨g, k * 12 + 11, none⟩) hg).trans c11
      subst hA
      clear c0 c1 c2 c3 c4 c5 c6 c7 c8 c9 c10 c11
      have k0 : (0 : Int) ≤ (k : Int) := by omega
      have k1 : (k : Int) < (l.length : Int) := by omega
      have k2 : (l.length : Int) ≤ 100000 := by omega
      have hgr : g < wr.heap.size := Nat.lt_of_lt_of_le hg hs
      have hln := rsE_len l k
      by_cases hk3 : ek = 3
      · subst hk3
        have hBE : Below w.heap.size w (wr.alloc (.cells #[.int .i64 3, .int .i64 ex, .int .i64 en, .int .i64 0, .int .i64 0, .int .i64 0, .int .i64 0, .int .i64 0, .int .i64 0, .int .i64 0, .int .i64 0, .int .i64 0] 67)) := hB.alloc hs _
        have hsE := hBE.size
        rcases Nat.eq_zero_or_pos k with hk0 | hk0
        · subst hk0
          have HNW := Lib.hid (rsE_new l 0 _ hev rfl (pvP_zero _ _))
          have hT0 : (rsE l 0).length = 0 := rfl
          have HO0 := HO
          clear hk hln
          go_wp2_with fail
          refine region_sc (by kernel_rfl) (by kernel_rfl) ?_
          iterate 12 (first | go_big_quiet_skip | (go_big_quiet_want; go_big_quiet_op; first | go_big_quiet_on | (refine ⟨_, fun _ _ => rfl, ?_⟩; go_big_quiet_on)))
          refine wpQuiet_nil ?_
          intro w2 hS2
          have hB2 := Below.step hBE hS2
          have hs2 := hB2.size
          have HO2 := Lib.hid (row_kept (row_kept HO0.out (show Below wr.heap.size wr (wr.alloc (.cells #[.int .i64 3, .int .i64 ex, .int .i64 en, .int .i64 0, .int .i64 0, .int .i64 0, .int .i64 0, .int .i64 0, .int .i64 0, .int .i64 0, .int .i64 0, .int .i64 0] 67)) from by go_grown)) hS2)
          have y1 := (hS2.cell (p := ⟨wr.heap.size, 1, none⟩) (by simp)).trans (show (wr.alloc (.cells #[.int .i64 3, .int .i64 ex, .int .i64 en, .int .i64 0, .int .i64 0, .int .i64 0, .int .i64 0, .int .i64 0, .int .i64 0, .int .i64 0, .int .i64 0, .int .i64 0] 67)).cell? ⟨wr.heap.size, 1, none⟩ = some (.int .i64 ex) from by simp [go_sem])
          clear d0 d1 d2 d3 d4 d5 d6 d7 d8 d9 d10 d11 hS2 HO
          generalize rsE l 0 = R0 at *
          have HR := Lib.hid (reads_newN w2 1 2 (prc (ex, 1)) 57 rfl)
          have HO1 := Lib.hid (HO2.out.alloc (Obj.cells #[.int .i64 ex, .int .i64 1] 57))
          have N1 := Lib.hid (show R0.length + 1 ≤ maxLen from by unfold maxLen; omega)
          have N2 := Lib.hid (show (R0.length + 1) * 16 ≤ 140737488355328 from by omega)
          have N3 := Lib.hid (show w.heap.size ≤ (w2.alloc (Obj.cells #[.int .i64 ex, .int .i64 1] 57)).heap.size from by simp; omega)
          have NV := Lib.hid (prc_one (ex, 1))
          have hBA : Below w.heap.size w (w2.alloc (Obj.cells #[.int .i64 ex, .int .i64 1] 57)) := hB2.alloc hs2 _
          go_wp2_with (at_builtin; refine wpList_append_any _ rfl (.tmp 38) (.tmp 42) 54 rfl w.heap.size 57 i0 (.agg #[.int .i64 0, .int .i64 0]) 2 16 Try.underlying54 HI.out HZ0.out HZ1.out HZ2.out rfl (by decide) _ R0.length (prl R0) rfl HO1.out _ (some ⟨w2.heap.size, 0, none⟩) 1 1 _ rfl HR.out NV.out N1.out N2.out N3.out ?_; intro v3 w3 hown3 hgrow3 hblk3; have HP := Lib.hid (And.intro hown3 hgrow3); clear hown3 hgrow3 hblk3)
          go_roundw
          case rel => exact ⟨0 + 1, by omega, by go_num, by have h := HP.out.1; refine Lib.hid ?_; rw [HNW.out, List.length_append, prl_snoc]; exact h, Below.grown hBA HP.out.2 (by simp; omega) (fun g e => (HO1.out.lt g e).1)⟩
          case measure => first | (simp [intOf]; done) | (simp [intOf]; omega)
        · obtain ⟨k', hkk⟩ : ∃ k', k = k' + 1 := ⟨k - 1, by omega⟩
          have hkI : (k : Int) - 1 = (k' : Int) := by omega
          have kp : (0 : Int) < (k : Int) := by omega
          obtain ⟨dv, hdv⟩ : ∃ e, l[k']? = some e := ⟨_, List.getElem?_eq_getElem (by omega)⟩
          obtain ⟨g2, hA2, hg2, c0, c1, c2, c3, c4, c5, c6, c7, c8, c9, c10, c11⟩ := H.out.cells k' dv hdv
          have hgg : g2 = g := by simpa using hA2.symm
          subst hgg
          obtain ⟨dk, dx, dn⟩ := dv
          dsimp only at c0 c1 c2
          have s0 := (hB.cell (p := ⟨g2, k' * 12, none⟩) hg).trans c0
          have s1 := (hB.cell (p := ⟨g2, k' * 12 + 1, none⟩) hg).trans c1
          have s2 := (hB.cell (p := ⟨g2, k' * 12 + 2, none⟩) hg).trans c2
          have s3 := (hB.cell (p := ⟨g2, k' * 12 + 3, none⟩) hg).trans c3
          have s4 := (hB.cell (p := ⟨g2, k' * 12 + 4, none⟩) hg).trans c4
          have s5 := (hB.cell (p := ⟨g2, k' * 12 + 5, none⟩) hg).trans c5
          have s6 := (hB.cell (p := ⟨g2, k' * 12 + 6, none⟩) hg).trans c6
          have s7 := (hB.cell (p := ⟨g2, k' * 12 + 7, none⟩) hg).trans c7
          have s8 := (hB.cell (p := ⟨g2, k' * 12 + 8, none⟩) hg).trans c8
          have s9 := (hB.cell (p := ⟨g2, k' * 12 + 9, none⟩) hg).trans c9
          have s10 := (hB.cell (p := ⟨g2, k' * 12 + 10, none⟩) hg).trans c10
          have s11 := (hB.cell (p := ⟨g2, k' * 12 + 11, none⟩) hg).trans c11
          have hpv : pvP l k ex = isP ex (dk, dx, dn) := pvP_some l k ex _ hk0 (by rw [hkk]; exact hdv)
          have HPK := Lib.hid (fun W => picks_is dk dx dn ex W)
          have k'0 : (0 : Int) ≤ (k' : Int) := by omega
          have k'1 : (k' : Int) < (l.length : Int) := by omega
          clear c0 c1 c2 c3 c4 c5 c6 c7 c8 c9 c10 c11 hA2 hg2 hdv hkk
          cases hpp : isP ex (dk, dx, dn) with
          | true =>
            rw [hpp] at hpv HPK
            obtain ⟨R, nn, hR, hR2, hn1, hn2⟩ := rsE_more l k _ hev rfl hpv
            dsimp only at hR hR2
            have HR2 := Lib.hid hR2
            have HO0 := HO.out
            rw [hR] at HO0 hln
            obtain ⟨G, cp, rfl, hGb, hGl⟩ := World.ownsRow.form HO0 (by rw [List.length_append]; show 0 < _ + 1; omega)
            rw [List.length_append] at hln
            have hlen : (R ++ [(ex, nn)]).length = R.length + 1 := by rw [List.length_append]; rfl
            rw [hlen] at HO0
            have HO00 := Lib.hid HO0
            have hRl : R.length ≤ 100000 := by have : [(ex, nn)].length = 1 := rfl; omega
            have hnnb : nn ≤ 100000 := by omega
            clear hR hR2 hpv hpp hev HO hln
            rw [hlen]
            clear hlen
            go_wp2_with fail
            refine region_sc (by kernel_rfl) (by kernel_rfl) ?_
            iterate 7 (first | go_big_quiet_skip | (go_big_quiet_want; go_big_quiet_op; first | go_big_quiet_on | (refine ⟨_, fun _ _ => rfl, ?_⟩; go_big_quiet_on)))
            go_big_quiet_want
            refine ⟨.agg #[.int .i64 dk, .int .i64 dx, .int .i64 dn, .int .i64 0, .int .i64 0, .int .i64 0, .int .i64 0, .int .i64 0, .int .i64 0, .int .i64 0, .int .i64 0, .int .i64 0], fun wq hq => ?_, ?_⟩
            · have hq2 : Below wr.heap.size wr wq := Below.step (show Below wr.heap.size wr (wr.alloc (.cells #[.int .i64 3, .int .i64 ex, .int .i64 en, .int .i64 0, .int .i64 0, .int .i64 0, .int .i64 0, .int .i64 0, .int .i64 0, .int .i64 0, .int .i64 0, .int .i64 0] 67)) from by go_grown) hq
              have q0 := (hq2.cell (p := ⟨g2, k' * 12, none⟩) hgr).trans s0
              have q1 := (hq2.cell (p := ⟨g2, k' * 12 + 1, none⟩) hgr).trans s1
              have q2 := (hq2.cell (p := ⟨g2, k' * 12 + 2, none⟩) hgr).trans s2
              have q3 := (hq2.cell (p := ⟨g2, k' * 12 + 3, none⟩) hgr).trans s3
              have q4 := (hq2.cell (p := ⟨g2, k' * 12 + 4, none⟩) hgr).trans s4
              have q5 := (hq2.cell (p := ⟨g2, k' * 12 + 5, none⟩) hgr).trans s5
              have q6 := (hq2.cell (p := ⟨g2, k' * 12 + 6, none⟩) hgr).trans s6
              have q7 := (hq2.cell (p := ⟨g2, k' * 12 + 7, none⟩) hgr).trans s7
              have q8 := (hq2.cell (p := ⟨g2, k' * 12 + 8, none⟩) hgr).trans s8
              have q9 := (hq2.cell (p := ⟨g2, k' * 12 + 9, none⟩) hgr).trans s9
              have q10 := (hq2.cell (p := ⟨g2, k' * 12 + 10, none⟩) hgr).trans s10
              have q11 := (hq2.cell (p := ⟨g2, k' * 12 + 11, none⟩) hgr).trans s11
              unfold Oper.quietAt
              simp [go_sem, q0, q1, q2, q3, q4, q5, q6, q7, q8, q9, q10, q11, Oper.quietUpon]
            simp only [Act.put, List.setIfInBounds_toArray, List.set_cons_zero, List.set_cons_succ]
            go_big_quiet_on
            iterate 1 (first | go_big_quiet_skip | (go_big_quiet_want; go_big_quiet_op; first | go_big_quiet_on | (refine ⟨_, fun _ _ => rfl, ?_⟩; go_big_quiet_on)))
            go_big_quiet_want
            refine ⟨.int .i64 ex, fun wq hq => ?_, ?_⟩
            · have q1 := (hq.cell (p := ⟨wr.heap.size, 1, none⟩) (by simp)).trans (show (wr.alloc (.cells #[.int .i64 3, .int .i64 ex, .int .i64 en, .int .i64 0, .int .i64 0, .int .i64 0, .int .i64 0, .int .i64 0, .int .i64 0, .int .i64 0, .int .i64 0, .int .i64 0] 67)).cell? ⟨wr.heap.size, 1, none⟩ = some (.int .i64 ex) from by simp [go_sem])
              unfold Oper.quietAt
              simp [go_sem, q1, Oper.quietUpon]
            simp only [Act.put, List.setIfInBounds_toArray, List.set_cons_zero, List.set_cons_succ]
            go_big_quiet_on
            go_big_quiet_want
            go_big_quiet_op
            refine ⟨.bool true, fun wq hq => Sc.call HPK.out hq, ?_⟩
            go_big_quiet_on
            iterate 1 (first | go_big_quiet_skip | (go_big_quiet_want; go_big_quiet_op; first | go_big_quiet_on | (refine ⟨_, fun _ _ => rfl, ?_⟩; go_big_quiet_on)))
            refine wpQuiet_nil ?_
            intro w2 hS2
            have hB2 := Below.step hBE hS2
            have hs2 := hB2.size
            have HO2 := Lib.hid (row_kept (row_kept HO00.out (show Below wr.heap.size wr (wr.alloc (.cells #[.int .i64 3, .int .i64 ex, .int .i64 en, .int .i64 0, .int .i64 0, .int .i64 0, .int .i64 0, .int .i64 0, .int .i64 0, .int .i64 0, .int .i64 0, .int .i64 0] 67)) from by go_grown)) hS2)
            have y1 := (World.ownsRow.cellAt HO2.out (R.length * 2 + 1) (by omega)).trans (prl_get _ R.length (ex, nn) (by simp)).2
            have y2 := World.ownsRow.frozenAt HO2.out (R.length * 2 + 1)
            have hGl2 : G < w2.heap.size := (HO2.out.lt G rfl).2
            have HSET := Lib.hid (World.ownsRow.stored HO2.out (R.length * 2 + 1) (.int .i64 (nn + 1)))
            rw [prl_set] at HSET
            have t0 : (0 : Int) ≤ (R.length : Int) := by omega
            have t1 : (R.length : Int) ≤ 100000 := by omega
            have HRL := Lib.hid (show (R ++ [(ex, nn + 1)]).length = R.length + 1 from by rw [List.length_append]; rfl)
            clear d0 d1 d2 d3 d4 d5 d6 d7 d8 d9 d10 d11 s0 s1 s2 s3 s4 s5 s6 s7 s8 s9 s10 s11 hS2
            dsimp only at y1
            generalize hTT : R.length = T at *
            go_wp2_with fail
            go_region
            go_wp2_with fail
            go_roundw
            case rel => exact ⟨k + 1, by omega, by go_num, by refine Lib.hid ?_; rw [HR2.out, HRL.out]; exact HSET.out.1, Below.drew (Below.grown hB2 HSET.out.2 hs2 (fun g e => by cases e; exact hGb))⟩
            case measure => simp [intOf]; omega
          | false =>
            rw [hpp] at hpv HPK
            have HNW := Lib.hid (rsE_new l k _ hev rfl hpv)
            clear hpv hpp hev
            go_wp2_with fail
            refine region_sc (by kernel_rfl) (by kernel_rfl) ?_
            iterate 7 (first | go_big_quiet_skip | (go_big_quiet_want; go_big_quiet_op; first | go_big_quiet_on | (refine ⟨_, fun _ _ => rfl, ?_⟩; go_big_quiet_on)))
            go_big_quiet_want
            refine ⟨.agg #[.int .i64 dk, .int .i64 dx, .int .i64 dn, .int .i64 0, .int .i64 0, .int .i64 0, .int .i64 0, .int .i64 0, .int .i64 0, .int .i64 0, .int .i64 0, .int .i64 0], fun wq hq => ?_, ?_⟩
            · have hq2 : Below wr.heap.size wr wq := Below.step (show Below wr.heap.size wr (wr.alloc (.cells #[.int .i64 3, .int .i64 ex, .int .i64 en, .int .i64 0, .int .i64 0, .int .i64 0, .int .i64 0, .int .i64 0, .int .i64 0, .int .i64 0, .int .i64 0, .int .i64 0] 67)) from by go_grown) hq
              have q0 := (hq2.cell (p := ⟨g2, k' * 12, none⟩) hgr).trans s0
              have q1 := (hq2.cell (p := ⟨g2, k' * 12 + 1, none⟩) hgr).trans s1
              have q2 := (hq2.cell (p := ⟨g2, k' * 12 + 2, none⟩) hgr).trans s2
              have q3 := (hq2.cell (p := ⟨g2, k' * 12 + 3, none⟩) hgr).trans s3
              have q4 := (hq2.cell (p := ⟨g2, k' * 12 + 4, none⟩) hgr).trans s4
              have q5 := (hq2.cell (p := ⟨g2, k' * 12 + 5, none⟩) hgr).trans s5
              have q6 := (hq2.cell (p := ⟨g2, k' * 12 + 6, none⟩) hgr).trans s6
              have q7 := (hq2.cell (p := ⟨g2, k' * 12 + 7, none⟩) hgr).trans s7
              have q8 := (hq2.cell (p := ⟨g2, k' * 12 + 8, none⟩) hgr).trans s8
              have q9 := (hq2.cell (p := ⟨g2, k' * 12 + 9, none⟩) hgr).trans s9
              have q10 := (hq2.cell (p := ⟨g2, k' * 12 + 10, none⟩) hgr).trans s10
              have q11 := (hq2.cell (p := ⟨g2, k' * 12 + 11, none⟩) hgr).trans s11
              unfold Oper.quietAt
              simp [go_sem, q0, q1, q2, q3, q4, q5, q6, q7, q8, q9, q10, q11, Oper.quietUpon]
            simp only [Act.put, List.setIfInBounds_toArray, List.set_cons_zero, List.set_cons_succ]
            go_big_quiet_on
            iterate 1 (first | go_big_quiet_skip | (go_big_quiet_want; go_big_quiet_op; first | go_big_quiet_on | (refine ⟨_, fun _ _ => rfl, ?_⟩; go_big_quiet_on)))
            go_big_quiet_want
            refine ⟨.int .i64 ex, fun wq hq => ?_, ?_⟩
            · have q1 := (hq.cell (p := ⟨wr.heap.size, 1, none⟩) (by simp)).trans (show (wr.alloc (.cells #[.int .i64 3, .int .i64 ex, .int .i64 en, .int .i64 0, .int .i64 0, .int .i64 0, .int .i64 0, .int .i64 0, .int .i64 0, .int .i64 0, .int .i64 0, .int .i64 0] 67)).cell? ⟨wr.heap.size, 1, none⟩ = some (.int .i64 ex) from by simp [go_sem])
              unfold Oper.quietAt
              simp [go_sem, q1, Oper.quietUpon]
            simp only [Act.put, List.setIfInBounds_toArray, List.set_cons_zero, List.set_cons_succ]
            go_big_quiet_on
            go_big_quiet_want
            go_big_quiet_op
            refine ⟨.bool false, fun wq hq => Sc.call HPK.out hq, ?_⟩
            go_big_quiet_on
            iterate 1 (first | go_big_quiet_skip | (go_big_quiet_want; go_big_quiet_op; first | go_big_quiet_on | (refine ⟨_, fun _ _ => rfl, ?_⟩; go_big_quiet_on)))
            refine wpQuiet_nil ?_
            intro w2 hS2
            have hB2 := Below.step hBE hS2
            have hs2 := hB2.size
            have HO2 := Lib.hid (row_kept (row_kept HO.out (show Below wr.heap.size wr (wr.alloc (.cells #[.int .i64 3, .int .i64 ex, .int .i64 en, .int .i64 0, .int .i64 0, .int .i64 0, .int .i64 0, .int .i64 0, .int .i64 0, .int .i64 0, .int .i64 0, .int .i64 0] 67)) from by go_grown)) hS2)
            have y1 := (hS2.cell (p := ⟨wr.heap.size, 1, none⟩) (by simp)).trans (show (wr.alloc (.cells #[.int .i64 3, .int .i64 ex, .int .i64 en, .int .i64 0, .int .i64 0, .int .i64 0, .int .i64 0, .int .i64 0, .int .i64 0, .int .i64 0, .int .i64 0, .int .i64 0] 67)).cell? ⟨wr.heap.size, 1, none⟩ = some (.int .i64 ex) from by simp [go_sem])
            clear d0 d1 d2 d3 d4 d5 d6 d7 d8 d9 d10 d11 s0 s1 s2 s3 s4 s5 s6 s7 s8 s9 s10 s11 hS2 HO
            generalize rsE l k = R0 at *
            have HR := Lib.hid (reads_newN w2 1 2 (prc (ex, 1)) 57 rfl)
            have HO1 := Lib.hid (HO2.out.alloc (Obj.cells #[.int .i64 ex, .int .i64 1] 57))
            have N1 := Lib.hid (show R0.length + 1 ≤ maxLen from by unfold maxLen; omega)
            have N2 := Lib.hid (show (R0.length + 1) * 16 ≤ 140737488355328 from by omega)
            have N3 := Lib.hid (show w.heap.size ≤ (w2.alloc (Obj.cells #[.int .i64 ex, .int .i64 1] 57)).heap.size from by simp; omega)
            have NV := Lib.hid (prc_one (ex, 1))
            have hBA : Below w.heap.size w (w2.alloc (Obj.cells #[.int .i64 ex, .int .i64 1] 57)) := hB2.alloc hs2 _
            go_wp2_with (at_builtin; refine wpList_append_any _ rfl (.tmp 38) (.tmp 42) 54 rfl w.heap.size 57 i0 (.agg #[.int .i64 0, .int .i64 0]) 2 16 Try.underlying54 HI.out HZ0.out HZ1.out HZ2.out rfl (by decide) _ R0.length (prl R0) rfl HO1.out _ (some ⟨w2.heap.size, 0, none⟩) 1 1 _ rfl HR.out NV.out N1.out N2.out N3.out ?_; intro v3 w3 hown3 hgrow3 hblk3; have HP := Lib.hid (And.intro hown3 hgrow3); clear hown3 hgrow3 hblk3)
            go_roundw
            case rel => exact ⟨k + 1, by omega, by go_num, by have h := HP.out.1; refine Lib.hid ?_; rw [HNW.out, List.length_append, prl_snoc]; exact h, Below.grown hBA HP.out.2 (by simp; omega) (fun g e => (HO1.out.lt g e).1)⟩
            case measure => simp [intOf]; omega
      · have e2 : (ek != 3) = true := by simpa using hk3
        have HNW := Lib.hid (rsE_skip l k _ hev hk3)
        go_wp2_with fail
        go_roundw
        case rel => exact ⟨k + 1, by omega, by go_num, by refine Lib.hid ?_; rw [HNW.out]; exact (row_kept HO.out (by go_grown)), hB.alloc hs _⟩
        case measure => simp [intOf]; omega
    · obtain rfl : k = l.length := by omega
      have hd : decide ((l.length : Int) < (l.length : Int)) = false := decide_eq_false (by omega)
      go_wp2_with fail
      go_ret
      exact ⟨_, rfl, HO.out, hB⟩
end Go.Proofs.Ytdlgpbmeeiakdaa

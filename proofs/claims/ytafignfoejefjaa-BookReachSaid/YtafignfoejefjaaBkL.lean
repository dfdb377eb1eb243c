/-
  Levels.
-/
import Derived.Test.YtafignfoejefjaaRows
import Derived.Test.YtafignfoejefjaaKit
import Derived.Test.YtafignfoejefjaaApp
import Derived.Test.YtafignfoejefjaaQuiet
import Derived.WalkKit
import Derived.ProofKit
import Derived.OpenShut
import Derived.ShutString
import Derived.Below
import Derived.Outline
import Derived.WalkLawsBesides
import Derived.WalkSpells
import Derived.Handy
import Derived.Deep.QuietTactic
import Derived.BigQuiet
import Derived.RegionTactic
import Derived.ChangeAlike
import Derived.Lib.Hide
import Derived.Laws.Rows
import Derived.Laws.Tables
import Derived.Laws.CopyOwn
import Derived.Laws.MakeOwn
import Derived.Laws.Entries
import Derived.Laws.OwnMore
import Derived.Deep.WholeRow
import Derived.Deep.LoopGhost
import Derived.Deep.AppendLies
import Derived.Deep.Draws
import Derived.Maps.AppendAt
import Derived.OwnWalk
import Derived.Deep.RegionHeld3
import Derived.Deep.Cut
import Derived.Deep.CutRange
import Derived.Deep.DeepCutAuto
import Derived.Deep.CutBlock
import Derived.Lib.SliceRun
import Derived.IntWalk
import Derived.Maps.RangeWalk
import Derived.Test.YtafignfoejefjaaBkM
import Derived.Test.YtafignfoejefjaaBkO
import Derived.Test.YtafignfoejefjaaBkP
import Derived.Test.YtafignfoejefjaaBkQ
namespace Go.Proofs.Ytafignfoejefjaa
open Go.ChangeShapes Go.WideShapes Go.ChangeAt Go.RowKit
theorem infoL1 : (Try.prog.info? 39).map (fun i => (i.zero, i.size, i.bytes)) = some (some (.agg #[.int .i64 0, .int .i64 0, .int .i64 0]), 3, 24) := by kernel_rfl
set_option maxRecDepth 100000 in
set_option maxHeartbeats 4000000 in
theorem levels_is (p c b2 b r f g : Int) (base cap : Nat) (A : Option Addr) (m : Nat) (os : List Ord) (n s : Int) (w : World) (hm : m = os.length) (h : w.ownsRow base 55 7 (.slice A m cap) m (ov os)) (hl : os.length ≤ 40) (hF : Fine os) : Calls Try.prog 8 #[.agg #[.int .i64 p, .int .i64 c, .int .i64 b2, .int .i64 b, .int .i64 r, .int .i64 f, .int .i64 g, .slice A m cap], .int .i64 n, .int .i64 s] w fun e w' => ∃ (v : Value) (ls : List Lvl), e = .returned v ∧ LvIs os n s ls ∧ w'.ownsRow w.heap.size 39 3 v ls.length (vv ls) ∧ ls.length ≤ 40 ∧ Below w.heap.size w w' := by
  subst hm
  have HH := Lib.hid h
  have HL := Lib.hid hl
  have HF := Lib.hid hF
  have hmm := @run_makeMap Try.prog
  clear h hl hF
  go_enter Try.func8, Try.ntmps8
  go_wp2_with fail
  have m0 := MapL.made ((w.alloc (.cells (List.toArray [.int .i64 p, .int .i64 c, .int .i64 b2, .int .i64 b, .int .i64 r, .int .i64 f, .int .i64 g, .slice A os.length cap]) 29)).alloc (.cells (List.toArray [.int .i64 s]) 3))
  have b0 := (Bl.new (w.alloc (.cells (List.toArray [.int .i64 p, .int .i64 c, .int .i64 b2, .int .i64 b, .int .i64 r, .int .i64 f, .int .i64 g, .slice A os.length cap]) 29)) [.int .i64 s] 3).below (w' := ((w.alloc (.cells (List.toArray [.int .i64 p, .int .i64 c, .int .i64 b2, .int .i64 b, .int .i64 r, .int .i64 f, .int .i64 g, .slice A os.length cap]) 29)).alloc (.cells (List.toArray [.int .i64 s]) 3)).alloc (.map #[] 0)) (by go_grown)
  have z0 : (((w.alloc (.cells (List.toArray [.int .i64 p, .int .i64 c, .int .i64 b2, .int .i64 b, .int .i64 r, .int .i64 f, .int .i64 g, .slice A os.length cap]) 29)).alloc (.cells (List.toArray [.int .i64 s]) 3)).alloc (.map #[] 0)).heap.size = w.heap.size + 3 := by simp only [World.size_alloc]
  have g0 : Below w.heap.size w (((w.alloc (.cells (List.toArray [.int .i64 p, .int .i64 c, .int .i64 b2, .int .i64 b, .int .i64 r, .int .i64 f, .int .i64 g, .slice A os.length cap]) 29)).alloc (.cells (List.toArray [.int .i64 s]) 3)).alloc (.map #[] 0)) := by go_grown
  rw [World.size_alloc, World.size_alloc] at m0
  rw [World.size_alloc] at b0
  obtain ⟨W, hW⟩ : ∃ W, W = ((w.alloc (.cells (List.toArray [.int .i64 p, .int .i64 c, .int .i64 b2, .int .i64 b, .int .i64 r, .int .i64 f, .int .i64 g, .slice A os.length cap]) 29)).alloc (.cells (List.toArray [.int .i64 s]) 3)).alloc (.map #[] 0) := ⟨_, rfl⟩
  rw [← hW] at m0 b0 z0 g0 ⊢
  obtain ⟨MB, hMB⟩ : ∃ MB, MB = w.heap.size + 1 + 1 := ⟨_, rfl⟩
  rw [← hMB] at m0 ⊢
  rw [← lvl_nil n s] at m0
  have HM0 : Hid (MapL W MB 0 (lvl (os.take 0) n s) ∧ Bl (w.heap.size + 1) [.int .i64 s] W ∧ Below w.heap.size w W ∧ MB < W.heap.size) := Lib.hid ⟨m0, b0, g0, by omega⟩
  have HMB := Lib.hid hMB
  clear m0 b0 z0 g0 hW hMB hmm
  go_loopw [18] (fun i wr => ∃ k : Nat, k ≤ os.length ∧ i = .int .i64 (k : Int) ∧ Hid (MapL wr MB k (lvl (os.take k) n s) ∧ Bl (w.heap.size + 1) [.int .i64 s] wr ∧ Below w.heap.size w wr ∧ MB < wr.heap.size)) (fun i _ => os.length + 1 - (intOf i).toNat)
  case atStart => exact ⟨0, Nat.zero_le _, rfl, HM0⟩
  case round =>
    clear HM0
    obtain ⟨k, hk, rfl, HR⟩ := hrel
    have k0 : (0 : Int) ≤ (k : Int) := by omega
    by_cases hlt : k < os.length
    · obtain ⟨gb, cp2, hv, _, hgl⟩ := own_some HH.out (by omega)
      injection hv with e1 e2 e3
      subst e1
      subst e3
      clear e2
      obtain ⟨o, ho⟩ : ∃ o, os[k]? = some o := ⟨os[k], List.getElem?_eq_getElem hlt⟩
      have d0 : wr.cell? ⟨gb, k * 7, none⟩ = some (.int .i64 o.c) := (HR.out.2.2.1.cell (p := ⟨gb, k * 7, none⟩) hgl).trans (orow_cell (j := 0) HH.out ho rfl (by omega) rfl)
      have d1 : wr.cell? ⟨gb, k * 7 + 1, none⟩ = some (.int .i64 o.n) := (HR.out.2.2.1.cell (p := ⟨gb, k * 7 + 1, none⟩) hgl).trans (orow_cell (j := 1) HH.out ho rfl (by omega) rfl)
      have d2 : wr.cell? ⟨gb, k * 7 + 2, none⟩ = some (.int .i64 o.s) := (HR.out.2.2.1.cell (p := ⟨gb, k * 7 + 2, none⟩) hgl).trans (orow_cell (j := 2) HH.out ho rfl (by omega) rfl)
      have d3 : wr.cell? ⟨gb, k * 7 + 3, none⟩ = some (.int .i64 o.p) := (HR.out.2.2.1.cell (p := ⟨gb, k * 7 + 3, none⟩) hgl).trans (orow_cell (j := 3) HH.out ho rfl (by omega) rfl)
      have d4 : wr.cell? ⟨gb, k * 7 + 4, none⟩ = some (.int .i64 o.l) := (HR.out.2.2.1.cell (p := ⟨gb, k * 7 + 4, none⟩) hgl).trans (orow_cell (j := 4) HH.out ho rfl (by omega) rfl)
      have d5 : wr.cell? ⟨gb, k * 7 + 5, none⟩ = some (.int .i64 o.u) := (HR.out.2.2.1.cell (p := ⟨gb, k * 7 + 5, none⟩) hgl).trans (orow_cell (j := 5) HH.out ho rfl (by omega) rfl)
      have d6 : wr.cell? ⟨gb, k * 7 + 6, none⟩ = some (.int .i64 o.q) := (HR.out.2.2.1.cell (p := ⟨gb, k * 7 + 6, none⟩) hgl).trans (orow_cell (j := 6) HH.out ho rfl (by omega) rfl)
      have q1 : (k : Int) < (os.length : Int) := by omega
      have q2 : (os.length : Int) ≤ 40 := by have := HL.out; omega
      have sB := HR.out.2.1.cell 0 _ rfl
      have sl := HR.out.2.1.lt
      have HO := Lib.hid ho
      have Hk := Lib.hid hlt
      have hT : os.take (k + 1) = os.take k ++ [o] := by rw [List.take_add_one, ho]; rfl
      have HT := Lib.hid hT
      clear ho hlt hT hgl hk
      have gO : Below wr.heap.size wr (wr.alloc (.cells (List.toArray [.int .i64 o.c, .int .i64 o.n, .int .i64 o.s, .int .i64 o.p, .int .i64 o.l, .int .i64 o.u, .int .i64 o.q]) 55)) := by go_grown
      have HGO := Lib.hid gO
      clear gO
      rcases hn : (o.n == n) with _ | _
      · have hh : hit n s o = false := by unfold hit; rw [hn]; rfl
        have HHH := Lib.hid hh
        clear hh
        go_wp2_with fail
        go_roundw
        case rel => exact ⟨k + 1, Hk.out, by go_num, Lib.hid ⟨by rw [HT.out, lvl_miss _ n s o HHH.out]; exact (HR.out.1.below HGO.out).mono (by omega), HR.out.2.1.below HGO.out, Below.step HR.out.2.2.1 HGO.out, by have := HR.out.2.2.2; have := HGO.out.size; omega⟩⟩
        case measure => have := Hk.out; simp [intOf]; omega
      · rcases hs : (o.s == s) with _ | _
        · have hh : hit n s o = false := by unfold hit; rw [hn, hs]; rfl
          have HHH := Lib.hid hh
          clear hh
          go_wp2_with fail
          go_roundw
          case rel => exact ⟨k + 1, Hk.out, by go_num, Lib.hid ⟨by rw [HT.out, lvl_miss _ n s o HHH.out]; exact (HR.out.1.below HGO.out).mono (by omega), HR.out.2.1.below HGO.out, Below.step HR.out.2.2.1 HGO.out, by have := HR.out.2.2.2; have := HGO.out.size; omega⟩⟩
          case measure => have := Hk.out; simp [intOf]; omega
        · have hh : hit n s o = true := by unfold hit; rw [hn, hs]; rfl
          have HHH := Lib.hid hh
          have hf := HF.out o (List.mem_of_getElem? HO.out)
          have hwp : wfi o.p := wfi_of (by omega) (by omega)
          have q0 : 0 ≤ o.q := by omega
          have q9 : o.q ≤ 9999 := by omega
          have yq := sumq_bd (hitp n s o.p) (os.take k) (HF.out.take k)
          have yk := cnt_bd (hitp n s o.p) (os.take k)
          have yl : (os.take k).length ≤ 40 := by have := HL.out; simp; omega
          rw [← lvl_q] at yq
          rw [← lvl_k] at yk
          obtain ⟨Y, hY⟩ : ∃ Y, Y = lvl (os.take k) n s o.p := ⟨_, rfl⟩
          rw [← hY] at yq yk
          have y1 : 0 ≤ Y.q := yq.1
          have y2 : Y.q ≤ 400000 := by have := yq.2; omega
          have y3 : 0 ≤ Y.k := yk.1
          have y4 : Y.k ≤ 40 := by have := yk.2; omega
          have hlk := (HR.out.1.below HGO.out).look hwp
          rw [← hY] at hlk
          unfold lvV at hlk
          have gL : Below wr.heap.size wr ((wr.alloc (.cells (List.toArray [.int .i64 o.c, .int .i64 o.n, .int .i64 o.s, .int .i64 o.p, .int .i64 o.l, .int .i64 o.u, .int .i64 o.q]) 55)).alloc (.cells (List.toArray [.int .i64 Y.p, .int .i64 Y.q, .int .i64 Y.k]) 39)) := by go_grown
          have HGL := Lib.hid gL
          have HM := Lib.hid (HR.out.1.below gL)
          have HY := Lib.hid hY
          have HW := Lib.hid hwp
          have hkM : k < maxLen := by have := HL.out; have := Hk.out; unfold maxLen; omega
          have HKM := Lib.hid hkM
          have yk1 : 0 < Y.k + 1 := by omega
          have HY1 := Lib.hid yk1
          clear yq yk yl hY hf hh gL hkM yk1 hwp
          go_wp2_with (at_mapUpdate; refine wpList_mapL (y := ⟨o.p, Y.q + o.q, Y.k + 1⟩) rfl _ _ _ rfl rfl rfl rfl HM.out HKM.out HW.out HY1.out ?_; intro w8 hm8 hg8; have HP := Lib.hid (And.intro hm8 hg8); clear hm8 hg8)
          go_roundw
          case rel =>
            have hb8 := Below.grown (Below.step HR.out.2.2.1 HGL.out) HP.out.2 (by have := HR.out.2.2.1.size; have := HGL.out.size; omega) (fun g e => by injection e with e; have := HMB.out; omega)
            refine ⟨k + 1, Hk.out, by go_num, Lib.hid ⟨by rw [HT.out, lvl_hit _ n s o HHH.out, ← HY.out]; exact HP.out.1, ?_, hb8, ?_⟩⟩
            · have hbl := HR.out.2.1.below HGL.out
              have hlt2 := hbl.lt
              obtain ⟨t, ht⟩ := hbl
              exact ⟨t, (HP.out.2.block (w.heap.size + 1) hlt2 (by intro e; injection e with e; have := HMB.out; omega)).trans ht⟩
            · have := HR.out.2.2.2; have := HGL.out.size; have := HP.out.2.size; omega
          case measure => have := Hk.out; simp [intOf]; omega
    · have hke : k = os.length := by omega
      subst hke
      have HR2 : Hid (MapL wr MB os.length (lvl os n s) ∧ Bl (w.heap.size + 1) [.int .i64 s] wr ∧ Below w.heap.size w wr ∧ MB < wr.heap.size) := by
        have h := HR.out
        rw [List.take_length] at h
        exact Lib.hid h
      clear HR hk hlt
      obtain ⟨D, hown, hDD⟩ := HR2.out.1
      have HD := Lib.hid (And.intro hown hDD)
      clear hown hDD
      go_wp2_with (at_range; refine wpList_range_own _ rfl _ 68 rfl 3 39 mkey Try.underlying68 lvR MB os.length D rfl HD.out.1 ?_; intro w0 hrg0 hg0 hs0; have HG0 := Lib.hid (And.intro hrg0 (And.intro hg0 hs0)); clear hrg0 hg0 hs0; go_frame)
      obtain ⟨RB, hRB⟩ : ∃ RB, RB = wr.heap.size := ⟨_, rfl⟩
      rw [← hRB] at HG0 ⊢
      have HRB := Lib.hid hRB
      clear hRB
      go_loopw [11] (fun v wx => ∃ left ct ls, Hid (wx.ranges Try.prog 3 lvR MB RB os.length D left ct ∧ wx.ownsRow (RB + 1) 39 3 v ls.length (vv ls) ∧ Bl (w.heap.size + 1) [.int .i64 s] wx ∧ Below w.heap.size w wx ∧ RB + 1 ≤ wx.heap.size ∧ Col os n s D ls left ct)) (fun _ wx => wx.rangeLeft MB RB)
      case atStart =>
        have hb0 := Below.grown HR2.out.2.2.1 HG0.out.2.1 HR2.out.2.2.1.size (fun g e => by cases e)
        have hl0 := HR2.out.2.1.lt
        obtain ⟨t, ht⟩ := HR2.out.2.1
        exact ⟨_, _, [], Lib.hid ⟨HG0.out.1, ⟨rfl, .inl ⟨rfl, rfl⟩⟩, ⟨t, (HG0.out.2.1.block _ hl0 (by intro e; cases e)).trans ht⟩, hb0, by rw [HG0.out.2.2, HRB.out]; exact Nat.le_refl _, Col.start os n s D (own_size HD.out.1)⟩⟩
      case round =>
        obtain ⟨left, ct, ls, HX⟩ := hrel
        go_wp2_with (at_next; refine wpList_next_ranges _ rfl _ rfl 3 mkey lvR (Value.int .i64) lvV ikinv lvinv MB RB os.length D left ct rfl HX.out.1 ?_ ?_)
        · intro hc0 hl0
          obtain ⟨A2, c2, hv2⟩ := oshape HX.out.2.1
          subst hv2
          have hr1 : w.heap.size + 1 < RB + 1 := by have := HR2.out.2.1.lt; have := HRB.out; omega
          have hl2 : ls.length ≤ 40 := by have := HX.out.2.2.2.2.2.len; have := HL.out; omega
          have HLL := Lib.hid hl2
          have HR1 := Lib.hid hr1
          have HH0 := Lib.hid hl0
          have HS := Lib.hid (sort_is s (w.heap.size + 1) (RB + 1) c2 ls.length A2 ls _ rfl HX.out.2.1 (HX.out.2.2.1.cell 0 _ rfl) hr1 HX.out.2.2.2.2.1 (by omega))
          clear hr1 hl2 hl0 hc0
          go_wp2_with fail
          refine HS.out.mono ?_
          rintro e w9 ⟨rfl, ls', hp, hsrt, ho9, hb9⟩
          have H9 := Lib.hid (And.intro hp (And.intro hsrt (And.intro ho9 hb9)))
          clear hp hsrt ho9 hb9
          go_wp2_with fail
          go_ret
          refine ⟨_, ls', rfl, HX.out.2.2.2.2.2.done HD.out.2 HH0.out HF.out H9.out.1 H9.out.2.1, ?_, by rw [H9.out.1.length_eq]; exact HLL.out, ?_⟩
          · have h9 := own_base (base' := w.heap.size) H9.out.2.2.1 (by have := HR1.out; omega)
            rw [H9.out.1.length_eq]; exact h9
          · exact HX.out.2.2.2.1.trans (H9.out.2.2.2.mono (by have := HR1.out; omega))
        · intro x y kl ya yb w1 ct1 hkey hlx hR hat hrg1 hlt1 hg1 hs1 hen
          obtain ⟨x', ex, ekl, hwx⟩ := Maps.keyOf_int_inv Try.underlying3 hkey
          injection ex with _ ex
          subst ex
          subst ekl
          obtain ⟨rfl, rfl⟩ : ya = lvD y ∧ yb = [] := by
            rw [lvR_mk] at hR
            injection hR with hR
            injection hR with h1 h2
            exact ⟨h1.symm, h2.symm⟩
          clear hR
          obtain ⟨A2, c2, hv2⟩ := oshape HX.out.2.1
          subst hv2
          have hcol := HX.out.2.2.2.2.2.next HD.out.2 hwx hlx hat hlt1
          have hl2 : ls.length ≤ 40 := by have := HX.out.2.2.2.2.2.len; have := HL.out; omega
          have HLL := Lib.hid hl2
          have HC := Lib.hid hcol
          unfold lvV at hen ⊢
          obtain ⟨i0, hi, hz0, hz1, hz2⟩ := info_parts infoL1
          have HI := Lib.hid hi
          have HZ0 := Lib.hid hz0
          have HZ1 := Lib.hid hz1
          have HZ2 := Lib.hid hz2
          have hrr : RB + 1 ≤ w1.heap.size := by have := HX.out.2.2.2.2.1; omega
          have ho1 := rfar (w' := w1) HX.out.2.1 (fun k hk1 hk2 => hg1.block k hk2 (by intro e; injection e with e; omega))
          have gV : Below w1.heap.size w1 (w1.alloc (.cells (List.toArray [.int .i64 y.p, .int .i64 y.q, .int .i64 y.k]) 39)) := by go_grown
          have gW : Below w1.heap.size w1 ((w1.alloc (.cells (List.toArray [.int .i64 y.p, .int .i64 y.q, .int .i64 y.k]) 39)).alloc (.cells (List.toArray [.int .i64 y.p, .int .i64 y.q, .int .i64 y.k]) 39)) := by go_grown
          have HO := Lib.hid (rkept ho1 gW)
          have hrd := reads_newN (w1.alloc (.cells (List.toArray [.int .i64 y.p, .int .i64 y.q, .int .i64 y.k]) 39)) 1 3 [.int .i64 y.p, .int .i64 y.q, .int .i64 y.k] 39 rfl
          rw [World.size_alloc] at hrd
          have HRd := Lib.hid hrd
          have HX1 := Lib.hid (And.intro hrg1 (And.intro hg1 (And.intro hs1 (And.intro gW (And.intro hrr hlt1)))))
          have NV := Lib.hid (vc_one y)
          have N1 := Lib.hid (show ls.length + 1 ≤ maxLen from by unfold maxLen; omega)
          have N2 := Lib.hid (show (ls.length + 1) * 24 ≤ 140737488355328 from by omega)
          have N3 := Lib.hid (show RB + 1 ≤ ((w1.alloc (.cells (List.toArray [.int .i64 y.p, .int .i64 y.q, .int .i64 y.k]) 39)).alloc (.cells (List.toArray [.int .i64 y.p, .int .i64 y.q, .int .i64 y.k]) 39)).heap.size from by have := gW.size; omega)
          clear hi hz0 hz1 hz2 hrr ho1 gV gW hrd hrg1 hg1 hs1 hcol hl2 hat hlx hwx hlt1 hkey
          go_wp2_with (at_builtin; refine wpList_append_any _ rfl (.tmp 62) (.tmp 64) 33 rfl (RB + 1) 39 i0 (Value.agg #[.int .i64 0, .int .i64 0, .int .i64 0]) 3 24 Try.underlying33 HI.out HZ0.out HZ1.out HZ2.out rfl (by decide) _ ls.length _ rfl HO.out _ (some ⟨w1.heap.size + 1, 0, none⟩) 1 1 (vc y) rfl HRd.out NV.out N1.out N2.out N3.out ?_; intro v8 w8 hown8 hgrow8 hblk8; have HP := Lib.hid (And.intro hown8 hgrow8); clear hown8 hgrow8 hblk8)
          go_roundw
          case rel =>
            have hlt9 : ∀ g, (Value.slice A2 ls.length c2).ownBlock = some g → RB + 1 ≤ g := fun g e => (HO.out.lt g e).1
            have hMR : MB < RB := by have := HR2.out.2.2.2; have := HRB.out; omega
            have hr8 := ((HX1.out.1.alloc (.cells (List.toArray [.int .i64 y.p, .int .i64 y.q, .int .i64 y.k]) 39)).alloc (.cells (List.toArray [.int .i64 y.p, .int .i64 y.q, .int .i64 y.k]) 39)).kept HP.out.2 (fun e => by have := hlt9 MB e.symm; omega) (fun e => by have := hlt9 RB e.symm; omega)
            have hbw1 : Below w.heap.size w w1 := Below.grown HX.out.2.2.2.1 HX1.out.2.1 HX.out.2.2.2.1.size (fun g e => by injection e with e; have := HMB.out; omega)
            have hbw2 := Below.step hbw1 HX1.out.2.2.2.1
            have hbw3 := Below.grown hbw2 HP.out.2 hbw2.size (fun g e => by have := hlt9 g e; have := HMB.out; omega)
            refine ⟨_, ct1, ls ++ [y], Lib.hid ⟨hr8, ?_, ?_, hbw3, ?_, HC.out⟩⟩
            · have h := HP.out.1
              rw [List.length_append, vv_snoc]
              exact h
            · have hl0 := HX.out.2.2.1.lt
              have hb1 : Bl (w.heap.size + 1) [.int .i64 s] w1 := by
                obtain ⟨t, ht⟩ := HX.out.2.2.1
                exact ⟨t, (HX1.out.2.1.block _ hl0 (by intro e; injection e with e; have := HMB.out; omega)).trans ht⟩
              have hb2 := hb1.below HX1.out.2.2.2.1
              have hl2 := hb2.lt
              obtain ⟨t, ht⟩ := hb2
              exact ⟨t, (HP.out.2.block _ hl2 (by intro e; have := hlt9 _ e.symm; have := HMB.out; omega)).trans ht⟩
            · have := HP.out.2.size; have := N3.out; omega
          case measure =>
            have hlt9 : ∀ g, (Value.slice A2 ls.length c2).ownBlock = some g → RB + 1 ≤ g := fun g e => (HO.out.lt g e).1
            have hMR : MB < RB := by have := HR2.out.2.2.2; have := HRB.out; omega
            have hr8 := ((HX1.out.1.alloc (.cells (List.toArray [.int .i64 y.p, .int .i64 y.q, .int .i64 y.k]) 39)).alloc (.cells (List.toArray [.int .i64 y.p, .int .i64 y.q, .int .i64 y.k]) 39)).kept HP.out.2 (fun e => by have := hlt9 MB e.symm; omega) (fun e => by have := hlt9 RB e.symm; omega)
            rw [hr8.left_eq, HX.out.1.left_eq]
            exact HX1.out.2.2.2.2.2
end Go.Proofs.Ytafignfoejefjaa

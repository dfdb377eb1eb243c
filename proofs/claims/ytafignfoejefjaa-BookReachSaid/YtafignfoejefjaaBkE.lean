/-
  How many could be exchanged at a price.
-/
import Derived.Test.YtafignfoejefjaaRows
import Derived.Test.YtafignfoejefjaaKit
import Derived.Test.YtafignfoejefjaaApp
import Derived.Test.YtafignfoejefjaaQuiet
import Derived.WalkKit
import Derived.ProofKit
import Derived.OpenShut
import Derived.ShutString
import Derived.Below
import Derived.Outline
import Derived.WalkLawsBesides
import Derived.WalkSpells
import Derived.Handy
import Derived.Deep.QuietTactic
import Derived.BigQuiet
import Derived.RegionTactic
import Derived.ChangeAlike
import Derived.Lib.Hide
import Derived.Laws.Rows
import Derived.Laws.Tables
import Derived.Laws.CopyOwn
import Derived.Laws.MakeOwn
import Derived.Laws.Entries
import Derived.Laws.OwnMore
import Derived.Deep.WholeRow
import Derived.Deep.LoopGhost
import Derived.Deep.AppendLies
import Derived.Deep.Draws
import Derived.Maps.AppendAt
import Derived.OwnWalk
import Derived.Deep.RegionHeld3
import Derived.Deep.Cut
import Derived.Deep.CutRange
import Derived.Deep.DeepCutAuto
import Derived.Deep.CutBlock
import Derived.Lib.SliceRun
import Derived.IntWalk
import Derived.Test.YtafignfoejefjaaBkM
import Derived.Test.YtafignfoejefjaaBkO
import Derived.Test.YtafignfoejefjaaBkP
import Derived.Test.YtafignfoejefjaaBkQ
import Derived.Test.YtafignfoejefjaaBkL
import Derived.Test.YtafignfoejefjaaBkR
import Derived.Test.YtafignfoejefjaaBkCa
namespace Go.Proofs.Ytafignfoejefjaa
open Go.ChangeShapes Go.WideShapes Go.ChangeAt Go.RowKit
set_option maxRecDepth 100000 in
set_option maxHeartbeats 8000000 in
theorem exch_is (p c n b r f g : Int) (base cap : Nat) (A : Option Addr) (m : Nat) (os : List Ord) (nm pa : Int) (w : World) (hm : m = os.length) (h : w.ownsRow base 55 7 (.slice A m cap) m (ov os)) (hl : os.length ≤ 40) (hF : Fine os) : Calls Try.prog 30 #[.agg #[.int .i64 p, .int .i64 c, .int .i64 n, .int .i64 b, .int .i64 r, .int .i64 f, .int .i64 g, .slice A m cap], .int .i64 nm, .int .i64 pa] w fun e w' => e = .returned (.int .i64 (exv os nm pa)) ∧ Below w.heap.size w w' := by
  subst hm
  have HH := Lib.hid h
  have HL := Lib.hid hl
  have HF := Lib.hid hF
  clear h hl hF
  go_enter Try.func30, Try.ntmps30
  go_wp2_with fail
  have b0 := (Bl.new w [.int .i64 p, .int .i64 c, .int .i64 n, .int .i64 b, .int .i64 r, .int .i64 f, .int .i64 g, .slice A os.length cap] 29).below (w' := (w.alloc (.cells (List.toArray [.int .i64 p, .int .i64 c, .int .i64 n, .int .i64 b, .int .i64 r, .int .i64 f, .int .i64 g, .slice A os.length cap]) 29)).alloc (.cells (List.toArray [.int .i64 0, .int .i64 0]) 96)) (by go_grown)
  have b1 := Bl.new (w.alloc (.cells (List.toArray [.int .i64 p, .int .i64 c, .int .i64 n, .int .i64 b, .int .i64 r, .int .i64 f, .int .i64 g, .slice A os.length cap]) 29)) [.int .i64 0, .int .i64 0] 96
  have g0 : Below w.heap.size w ((w.alloc (.cells (List.toArray [.int .i64 p, .int .i64 c, .int .i64 n, .int .i64 b, .int .i64 r, .int .i64 f, .int .i64 g, .slice A os.length cap]) 29)).alloc (.cells (List.toArray [.int .i64 0, .int .i64 0]) 96)) := by go_grown
  rw [World.size_alloc] at b1
  obtain ⟨W, hW⟩ : ∃ W, W = (w.alloc (.cells (List.toArray [.int .i64 p, .int .i64 c, .int .i64 n, .int .i64 b, .int .i64 r, .int .i64 f, .int .i64 g, .slice A os.length cap]) 29)).alloc (.cells (List.toArray [.int .i64 0, .int .i64 0]) 96) := ⟨_, rfl⟩
  rw [← hW] at b0 b1 g0 ⊢
  obtain ⟨LB, hLB⟩ : ∃ LB, LB = w.heap.size + 1 := ⟨_, rfl⟩
  rw [← hLB] at b1 ⊢
  have HM0 : Hid (Bl w.heap.size [.int .i64 p, .int .i64 c, .int .i64 n, .int .i64 b, .int .i64 r, .int .i64 f, .int .i64 g, .slice A os.length cap] W ∧ Bl LB [.int .i64 (sumq (buyF nm pa) (os.take 0)), .int .i64 (sumq (sellF nm pa) (os.take 0))] W ∧ Below w.heap.size w W) := Lib.hid ⟨b0, b1, g0⟩
  have HLB := Lib.hid hLB
  clear b0 b1 g0 hW hLB
  go_loopw [13] (fun j wr => ∃ k : Nat, k ≤ os.length ∧ j = .int .i64 (k : Int) ∧ Hid (Bl w.heap.size [.int .i64 p, .int .i64 c, .int .i64 n, .int .i64 b, .int .i64 r, .int .i64 f, .int .i64 g, .slice A os.length cap] wr ∧ Bl LB [.int .i64 (sumq (buyF nm pa) (os.take k)), .int .i64 (sumq (sellF nm pa) (os.take k))] wr ∧ Below w.heap.size w wr)) (fun j _ => os.length + 1 - (intOf j).toNat)
  case atStart => exact ⟨0, Nat.zero_le _, rfl, HM0⟩
  case round =>
    clear HM0
    obtain ⟨k, hk, rfl, HR⟩ := hrel
    have k0 : (0 : Int) ≤ (k : Int) := by omega
    by_cases hlt : k < os.length
    · obtain ⟨gb, cp2, hv, _, hgl⟩ := own_some HH.out (by omega)
      injection hv with e1 e2 e3
      subst e1
      subst e3
      clear e2
      obtain ⟨o, ho⟩ : ∃ o, os[k]? = some o := ⟨os[k], List.getElem?_eq_getElem hlt⟩
      have d0 : wr.cell? ⟨gb, k * 7, none⟩ = some (.int .i64 o.c) := (HR.out.2.2.cell (p := ⟨gb, k * 7, none⟩) hgl).trans (orow_cell (j := 0) HH.out ho rfl (by omega) rfl)
      have d1 : wr.cell? ⟨gb, k * 7 + 1, none⟩ = some (.int .i64 o.n) := (HR.out.2.2.cell (p := ⟨gb, k * 7 + 1, none⟩) hgl).trans (orow_cell (j := 1) HH.out ho rfl (by omega) rfl)
      have d2 : wr.cell? ⟨gb, k * 7 + 2, none⟩ = some (.int .i64 o.s) := (HR.out.2.2.cell (p := ⟨gb, k * 7 + 2, none⟩) hgl).trans (orow_cell (j := 2) HH.out ho rfl (by omega) rfl)
      have d3 : wr.cell? ⟨gb, k * 7 + 3, none⟩ = some (.int .i64 o.p) := (HR.out.2.2.cell (p := ⟨gb, k * 7 + 3, none⟩) hgl).trans (orow_cell (j := 3) HH.out ho rfl (by omega) rfl)
      have d4 : wr.cell? ⟨gb, k * 7 + 4, none⟩ = some (.int .i64 o.l) := (HR.out.2.2.cell (p := ⟨gb, k * 7 + 4, none⟩) hgl).trans (orow_cell (j := 4) HH.out ho rfl (by omega) rfl)
      have d5 : wr.cell? ⟨gb, k * 7 + 5, none⟩ = some (.int .i64 o.u) := (HR.out.2.2.cell (p := ⟨gb, k * 7 + 5, none⟩) hgl).trans (orow_cell (j := 5) HH.out ho rfl (by omega) rfl)
      have d6 : wr.cell? ⟨gb, k * 7 + 6, none⟩ = some (.int .i64 o.q) := (HR.out.2.2.cell (p := ⟨gb, k * 7 + 6, none⟩) hgl).trans (orow_cell (j := 6) HH.out ho rfl (by omega) rfl)
      have q1 : (k : Int) < (os.length : Int) := by omega
      have q2 : (os.length : Int) ≤ 40 := by have := HL.out; omega
      have Hk := Lib.hid hlt
      have hT : os.take (k + 1) = os.take k ++ [o] := by rw [List.take_add_one, ho]; rfl
      have HTK := Lib.hid hT
      have hf := HF.out o (List.mem_of_getElem? ho)
      have p3 : 0 ≤ o.q := hf.2.2.1
      have p4 : o.q ≤ 9999 := hf.2.2.2
      have hft := HF.out.take k
      have hlk : (os.take k).length ≤ 40 := by have := HL.out; simp; omega
      have sb := sumq_bd (buyF nm pa) (os.take k) hft
      have sc := sumq_bd (sellF nm pa) (os.take k) hft
      have u1 : 0 ≤ sumq (buyF nm pa) (os.take k) := sb.1
      have u2 : sumq (buyF nm pa) (os.take k) ≤ 400000 := by have := sb.2; omega
      have u3 : 0 ≤ sumq (sellF nm pa) (os.take k) := sc.1
      have u4 : sumq (sellF nm pa) (os.take k) ≤ 400000 := by have := sc.2; omega
      have hne : wr.heap.size ≠ LB := by have := HR.out.2.1.lt; omega
      have hne2 : LB ≠ wr.heap.size := fun e => hne e.symm
      have cl := HR.out.2.1.lt
      have x0 := HR.out.2.1.cell 0 _ rfl
      have x1 := HR.out.2.1.cell 1 _ rfl
      have z0 := HR.out.2.1.frz 0
      have z1 := HR.out.2.1.frz 1
      clear ho hlt hT hgl hk hf hft hlk sb sc
      have gO : Below wr.heap.size wr (wr.alloc (.cells (List.toArray [.int .i64 o.c, .int .i64 o.n, .int .i64 o.s, .int .i64 o.p, .int .i64 o.l, .int .i64 o.u, .int .i64 o.q]) 55)) := by go_grown
      have HGO := Lib.hid gO
      clear gO
      by_cases hn : o.n = nm
      rotate_left
      · have n1 : (o.n != nm) = true := by rw [bne_iff_ne]; exact hn
        have f0 : buyF nm pa o = false := by unfold buyF; rw [beq_eq_false_iff_ne.2 hn]; rfl
        have f1 : sellF nm pa o = false := by unfold sellF; rw [beq_eq_false_iff_ne.2 hn]; rfl
        have HFF := Lib.hid (And.intro f0 f1)
        clear hn f0 f1
        go_wp2_with fail
        go_roundw
        case rel => exact ⟨k + 1, Hk.out, by go_num, Lib.hid (by rw [HTK.out, sumq_app, sumq_app]; simp only [sumq, HFF.out.1, HFF.out.2, if_false, Bool.false_eq_true]; simp only [Int.add_zero]; exact ⟨HR.out.1.below HGO.out, HR.out.2.1.below HGO.out, Below.step HR.out.2.2 HGO.out⟩)⟩
        case measure => have := Hk.out; simp [intOf]; omega
      have n1 : (o.n != nm) = false := by rw [hn]; simp
      have HN := Lib.hid hn
      by_cases hs : o.s ≠ 0 ∧ o.s ≠ 1
      · have s0 : (o.s == 0) = false := beq_eq_false_iff_ne.2 hs.1
        have s1 : (o.s == 1) = false := beq_eq_false_iff_ne.2 hs.2
        have f0 : buyF nm pa o = false := by unfold buyF; rw [s0]; simp
        have f1 : sellF nm pa o = false := by unfold sellF; rw [s1]; simp
        have HFF := Lib.hid (And.intro f0 f1)
        clear hs f0 f1 hn
        go_wp2_with fail
        go_roundw
        case rel => exact ⟨k + 1, Hk.out, by go_num, Lib.hid (by rw [HTK.out, sumq_app, sumq_app]; simp only [sumq, HFF.out.1, HFF.out.2, if_false, Bool.false_eq_true]; simp only [Int.add_zero]; exact ⟨HR.out.1.below HGO.out, HR.out.2.1.below HGO.out, Below.step HR.out.2.2 HGO.out⟩)⟩
        case measure => have := Hk.out; simp [intOf]; omega
      rcases (show o.s = 0 ∨ o.s = 1 by omega) with es | es
      · rw [es] at d2 HGO
        have f1 : sellF nm pa o = false := by unfold sellF; rw [es]; simp
        by_cases hp : pa ≤ o.p
        rotate_left
        · have dp : decide (pa ≤ o.p) = false := decide_eq_false hp
          have f0 : buyF nm pa o = false := by unfold buyF; rw [dp]; simp
          have HFF := Lib.hid (And.intro f0 f1)
          clear f0 f1 hn es hp
          go_wp2_with fail
          go_roundw
          case rel => exact ⟨k + 1, Hk.out, by go_num, Lib.hid (by rw [HTK.out, sumq_app, sumq_app]; simp only [sumq, HFF.out.1, HFF.out.2, if_false, Bool.false_eq_true]; simp only [Int.add_zero]; exact ⟨HR.out.1.below HGO.out, HR.out.2.1.below HGO.out, Below.step HR.out.2.2 HGO.out⟩)⟩
          case measure => have := Hk.out; simp [intOf]; omega
        · have f0 : buyF nm pa o = true := by unfold buyF; rw [es, hn, decide_eq_true hp]; simp
          have HFF := Lib.hid (And.intro f0 f1)
          have HLW := Lib.hid (show w.heap.size ≤ LB by have := HLB.out; omega)
          clear f0 f1 hn es
          go_wp2_with fail
          go_region
          go_wp2_with fail
          go_roundw
          case rel =>
            refine ⟨k + 1, Hk.out, by go_num, Lib.hid ?_⟩
            rw [HTK.out, sumq_app, sumq_app]
            simp only [sumq, HFF.out.1, HFF.out.2, if_true, if_false, Bool.false_eq_true, Int.add_zero]
            have l1 : w.heap.size ≠ LB := by have := HLB.out; omega
            have gX : ∀ W : World, Below W.heap.size W ((W.alloc (.cells (List.toArray [.int .i64 o.c, .int .i64 o.n, .int .i64 0, .int .i64 o.p, .int .i64 o.l, .int .i64 o.u, .int .i64 o.q]) 55)).drew) := fun W => by
              have h : Below W.heap.size W (W.alloc (.cells (List.toArray [.int .i64 o.c, .int .i64 o.n, .int .i64 0, .int .i64 o.p, .int .i64 o.l, .int .i64 o.u, .int .i64 o.q]) 55)) := by go_grown
              exact h.drew
            exact ⟨(Bl.far HR.out.1 (p := ⟨LB, 0, none⟩) (fun e => l1 e.symm) _).below (gX _), (Bl.set HR.out.2.1 0 _).below (gX _), Below.step (HR.out.2.2.setCell (p := ⟨LB, 0, none⟩) HLW.out _) (gX _)⟩
          case measure => have := Hk.out; simp [intOf]; omega
      · rw [es] at d2 HGO
        have f0 : buyF nm pa o = false := by unfold buyF; rw [es]; simp
        by_cases hp : o.p ≤ pa
        rotate_left
        · have dp : decide (o.p ≤ pa) = false := decide_eq_false hp
          have f1 : sellF nm pa o = false := by unfold sellF; rw [dp]; simp
          have HFF := Lib.hid (And.intro f0 f1)
          clear f0 f1 hn es hp
          go_wp2_with fail
          go_roundw
          case rel => exact ⟨k + 1, Hk.out, by go_num, Lib.hid (by rw [HTK.out, sumq_app, sumq_app]; simp only [sumq, HFF.out.1, HFF.out.2, if_false, Bool.false_eq_true]; simp only [Int.add_zero]; exact ⟨HR.out.1.below HGO.out, HR.out.2.1.below HGO.out, Below.step HR.out.2.2 HGO.out⟩)⟩
          case measure => have := Hk.out; simp [intOf]; omega
        · have f1 : sellF nm pa o = true := by unfold sellF; rw [es, hn, decide_eq_true hp]; simp
          have HFF := Lib.hid (And.intro f0 f1)
          have HLW := Lib.hid (show w.heap.size ≤ LB by have := HLB.out; omega)
          clear f0 f1 hn es
          go_wp2_with fail
          go_region
          go_wp2_with fail
          go_roundw
          case rel =>
            refine ⟨k + 1, Hk.out, by go_num, Lib.hid ?_⟩
            rw [HTK.out, sumq_app, sumq_app]
            simp only [sumq, HFF.out.1, HFF.out.2, if_true, if_false, Bool.false_eq_true, Int.add_zero]
            have l1 : w.heap.size ≠ LB := by have := HLB.out; omega
            have gX : ∀ W : World, Below W.heap.size W ((W.alloc (.cells (List.toArray [.int .i64 o.c, .int .i64 o.n, .int .i64 1, .int .i64 o.p, .int .i64 o.l, .int .i64 o.u, .int .i64 o.q]) 55)).drew) := fun W => by
              have h : Below W.heap.size W (W.alloc (.cells (List.toArray [.int .i64 o.c, .int .i64 o.n, .int .i64 1, .int .i64 o.p, .int .i64 o.l, .int .i64 o.u, .int .i64 o.q]) 55)) := by go_grown
              exact h.drew
            exact ⟨(Bl.far HR.out.1 (p := ⟨LB, 1, none⟩) (fun e => l1 e.symm) _).below (gX _), (Bl.set HR.out.2.1 1 _).below (gX _), Below.step (HR.out.2.2.setCell (p := ⟨LB, 1, none⟩) HLW.out _) (gX _)⟩
          case measure => have := Hk.out; simp [intOf]; omega
    · have hke : k = os.length := by omega
      subst hke
      have h := HR.out
      rw [List.take_length] at h
      have x0 := h.2.1.cell 0 _ rfl
      have x1 := h.2.1.cell 1 _ rfl
      have cl := h.2.1.lt
      have HB := Lib.hid h.2.2
      have hev : exv os nm pa = min (sumq (buyF nm pa) os) (sumq (sellF nm pa) os) := rfl
      have HEV := Lib.hid hev
      generalize sumq (buyF nm pa) os = S0 at *
      generalize sumq (sellF nm pa) os = S1 at *
      clear HR h hk hlt hev
      go_wp2_with fail
      go_ret
      exact ⟨by rw [HEV.out]; rfl, HB.out⟩
end Go.Proofs.Ytafignfoejefjaa

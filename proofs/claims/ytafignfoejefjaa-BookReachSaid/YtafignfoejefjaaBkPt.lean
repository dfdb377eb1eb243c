/-
  A participant's orders.
-/
import Derived.Test.YtafignfoejefjaaRows
import Derived.Test.YtafignfoejefjaaKit
import Derived.Test.YtafignfoejefjaaApp
import Derived.Test.YtafignfoejefjaaQuiet
import Derived.WalkKit
import Derived.ProofKit
import Derived.OpenShut
import Derived.ShutString
import Derived.Below
import Derived.Outline
import Derived.WalkLawsBesides
import Derived.WalkSpells
import Derived.Handy
import Derived.Deep.QuietTactic
import Derived.BigQuiet
import Derived.RegionTactic
import Derived.ChangeAlike
import Derived.Lib.Hide
import Derived.Laws.Rows
import Derived.Laws.Tables
import Derived.Laws.CopyOwn
import Derived.Laws.MakeOwn
import Derived.Laws.Entries
import Derived.Laws.OwnMore
import Derived.Deep.WholeRow
import Derived.Deep.LoopGhost
import Derived.Deep.AppendLies
import Derived.Deep.Draws
import Derived.Maps.AppendAt
import Derived.OwnWalk
import Derived.Deep.RegionHeld3
import Derived.Deep.Cut
import Derived.Deep.CutRange
import Derived.Deep.DeepCutAuto
import Derived.Deep.CutBlock
import Derived.Lib.SliceRun
import Derived.IntWalk
import Derived.Test.YtafignfoejefjaaBkM
import Derived.Test.YtafignfoejefjaaBkO
import Derived.Test.YtafignfoejefjaaBkP
import Derived.Test.YtafignfoejefjaaBkQ
import Derived.Test.YtafignfoejefjaaBkL
import Derived.Test.YtafignfoejefjaaBkR
import Derived.Test.YtafignfoejefjaaBkT
import Derived.Test.YtafignfoejefjaaBkC
namespace Go.Proofs.Ytafignfoejefjaa
open Go.ChangeShapes Go.WideShapes Go.ChangeAt Go.RowKit
/-- A participant's orders. -/
def po (p c pt : Int) : List Ord → List Ord
  | [] => []
  | o :: t => (if 0 ≤ pt ∧ ow p c o.c = pt then [o] else []) ++ po p c pt t
theorem po_app (p c pt : Int) (a b : List Ord) : po p c pt (a ++ b) = po p c pt a ++ po p c pt b := by
  induction a with
  | nil => rfl
  | cons x t ih => simp only [List.cons_append, po, ih, List.append_assoc]
theorem po_len (p c pt : Int) : ∀ os : List Ord, (po p c pt os).length ≤ os.length
  | [] => Nat.le_refl _
  | o :: t => by
    have := po_len p c pt t
    simp only [po, List.length_append, List.length_cons]
    split <;> simp <;> omega
set_option maxRecDepth 100000 in
set_option maxHeartbeats 8000000 in
theorem part_is (p c n b r f g : Int) (base cap : Nat) (A : Option Addr) (m : Nat) (os : List Ord) (pt : Int) (w : World) (hm : m = os.length) (h : w.ownsRow base 55 7 (.slice A m cap) m (ov os)) (hl : os.length ≤ 40) (hp : 1 ≤ p ∧ p ≤ 6) (hc : 1 ≤ c ∧ c ≤ 4) : Calls Try.prog 18 #[.agg #[.int .i64 p, .int .i64 c, .int .i64 n, .int .i64 b, .int .i64 r, .int .i64 f, .int .i64 g, .slice A m cap], .int .i64 pt] w fun e w' => ∃ v, e = .returned v ∧ w'.ownsRow w.heap.size 55 7 v (po p c pt os).length (ov (po p c pt os)) ∧ Below w.heap.size w w' := by
  subst hm
  have HH := Lib.hid h
  have HL := Lib.hid hl
  have HOW2 := Lib.hid (fun (x : Int) W => owner_is p c n b r f g x W hp hc)
  obtain ⟨j0, hj, hj0, hj1, hj2⟩ := info_parts infoO1
  have HJ := Lib.hid hj
  have HJ0 := Lib.hid hj0
  have HJ1 := Lib.hid hj1
  have HJ2 := Lib.hid hj2
  clear h hl hj hj0 hj1 hj2 hp hc
  go_enter Try.func18, Try.ntmps18
  go_wp2_with fail
  have b0 := Bl.new w [.int .i64 p, .int .i64 c, .int .i64 n, .int .i64 b, .int .i64 r, .int .i64 f, .int .i64 g, .slice A os.length cap] 29
  have g0 : Below w.heap.size w (w.alloc (.cells (List.toArray [.int .i64 p, .int .i64 c, .int .i64 n, .int .i64 b, .int .i64 r, .int .i64 f, .int .i64 g, .slice A os.length cap]) 29)) := by go_grown
  have z0 : (w.alloc (.cells (List.toArray [.int .i64 p, .int .i64 c, .int .i64 n, .int .i64 b, .int .i64 r, .int .i64 f, .int .i64 g, .slice A os.length cap]) 29)).heap.size = w.heap.size + 1 := World.size_alloc ..
  obtain ⟨W, hW⟩ : ∃ W, W = w.alloc (.cells (List.toArray [.int .i64 p, .int .i64 c, .int .i64 n, .int .i64 b, .int .i64 r, .int .i64 f, .int .i64 g, .slice A os.length cap]) 29) := ⟨_, rfl⟩
  rw [← hW] at b0 g0 z0 ⊢
  have HM0 := Lib.hid (And.intro b0 (And.intro g0 z0))
  clear b0 g0 z0 hW
  go_loopw [5, 11] (fun v j wr => ∃ k : Nat, k ≤ os.length ∧ j = .int .i64 (k : Int) ∧ Hid (wr.ownsRow W.heap.size 55 7 v (po p c pt (os.take k)).length (ov (po p c pt (os.take k))) ∧ Below W.heap.size W wr)) (fun _ j _ => os.length + 1 - (intOf j).toNat)
  case atStart => exact ⟨0, Nat.zero_le _, rfl, Lib.hid ⟨⟨rfl, .inl ⟨rfl, rfl⟩⟩, Below.refl _ _⟩⟩
  case round =>
    obtain ⟨k, hk, rfl, HR⟩ := hrel
    obtain ⟨A2, c2, hv2⟩ := oshape HR.out.1
    subst hv2
    have k0 : (0 : Int) ≤ (k : Int) := by omega
    by_cases hlt : k < os.length
    · obtain ⟨gb, cp2, hv, _, hgl⟩ := own_some HH.out (by omega)
      injection hv with e1 e2 e3
      subst e1
      subst e3
      clear e2
      obtain ⟨o, ho⟩ : ∃ o, os[k]? = some o := ⟨os[k], List.getElem?_eq_getElem hlt⟩
      have hww := Below.step HM0.out.2.1 HR.out.2
      have d0 : wr.cell? ⟨gb, k * 7, none⟩ = some (.int .i64 o.c) := (hww.cell (p := ⟨gb, k * 7, none⟩) hgl).trans (orow_cell (j := 0) HH.out ho rfl (by omega) rfl)
      have d1 : wr.cell? ⟨gb, k * 7 + 1, none⟩ = some (.int .i64 o.n) := (hww.cell (p := ⟨gb, k * 7 + 1, none⟩) hgl).trans (orow_cell (j := 1) HH.out ho rfl (by omega) rfl)
      have d2 : wr.cell? ⟨gb, k * 7 + 2, none⟩ = some (.int .i64 o.s) := (hww.cell (p := ⟨gb, k * 7 + 2, none⟩) hgl).trans (orow_cell (j := 2) HH.out ho rfl (by omega) rfl)
      have d3 : wr.cell? ⟨gb, k * 7 + 3, none⟩ = some (.int .i64 o.p) := (hww.cell (p := ⟨gb, k * 7 + 3, none⟩) hgl).trans (orow_cell (j := 3) HH.out ho rfl (by omega) rfl)
      have d4 : wr.cell? ⟨gb, k * 7 + 4, none⟩ = some (.int .i64 o.l) := (hww.cell (p := ⟨gb, k * 7 + 4, none⟩) hgl).trans (orow_cell (j := 4) HH.out ho rfl (by omega) rfl)
      have d5 : wr.cell? ⟨gb, k * 7 + 5, none⟩ = some (.int .i64 o.u) := (hww.cell (p := ⟨gb, k * 7 + 5, none⟩) hgl).trans (orow_cell (j := 5) HH.out ho rfl (by omega) rfl)
      have d6 : wr.cell? ⟨gb, k * 7 + 6, none⟩ = some (.int .i64 o.q) := (hww.cell (p := ⟨gb, k * 7 + 6, none⟩) hgl).trans (orow_cell (j := 6) HH.out ho rfl (by omega) rfl)
      have q1 : (k : Int) < (os.length : Int) := by omega
      have q2 : (os.length : Int) ≤ 40 := by have := HL.out; omega
      have Hk := Lib.hid hlt
      have HTK := Lib.hid (show os.take (k + 1) = os.take k ++ [o] by rw [List.take_add_one, ho]; rfl)
      have hpl : (po p c pt (os.take k)).length ≤ 40 := by have := po_len p c pt (os.take k); have := HL.out; simp at *; omega
      have gO : Below wr.heap.size wr (wr.alloc (.cells (List.toArray [.int .i64 o.c, .int .i64 o.n, .int .i64 o.s, .int .i64 o.p, .int .i64 o.l, .int .i64 o.u, .int .i64 o.q]) 55)) := by go_grown
      have bO := Bl.new wr [.int .i64 o.c, .int .i64 o.n, .int .i64 o.s, .int .i64 o.p, .int .i64 o.l, .int .i64 o.u, .int .i64 o.q] 55
      have bB := HM0.out.1.below HR.out.2
      clear ho hlt hgl hk hww
      by_cases hn : 0 ≤ pt
      rotate_left
      · have n1 : decide (0 ≤ pt) = false := decide_eq_false hn
        have HN := Lib.hid (show ¬ (0 ≤ pt ∧ ow p c o.c = pt) from fun h => hn h.1)
        have HGO := Lib.hid gO
        clear hn gO hpl bO bB
        go_wp2_with fail
        go_roundw
        case rel => exact ⟨k + 1, Hk.out, by go_num, Lib.hid (by rw [HTK.out, po_app]; simp only [po, if_neg HN.out, List.append_nil]; exact ⟨rkept HR.out.1 HGO.out, Below.step HR.out.2 HGO.out⟩)⟩
        case measure => have := Hk.out; simp [intOf]; omega
      · have HP0 := Lib.hid hn
        have c0 := bB.cell 0 _ rfl
        have c1 := bB.cell 1 _ rfl
        have c2 := bB.cell 2 _ rfl
        have c3 := bB.cell 3 _ rfl
        have c4 := bB.cell 4 _ rfl
        have c5 := bB.cell 5 _ rfl
        have c6 := bB.cell 6 _ rfl
        have cl := bB.lt
        have HG1 := Lib.hid (And.intro gO bO)
        clear gO bO bB
        go_wp2_with fail
        refine (HOW2.out _ _).mono ?_
        rintro e1 w1 ⟨rfl, hb1⟩
        have gV := Below.step HG1.out.1 hb1
        have bO1 := HG1.out.2.below hb1
        have hs1 := gV.size
        have hs0 := bO1.lt
        clear hb1 c0 c1 c2 c3 c4 c5 c6 d0 d1 d2 d3 d4 d5 d6
        rcases hq : (ow p c o.c == pt) with _ | _
        · have HN := Lib.hid (show ¬ (0 ≤ pt ∧ ow p c o.c = pt) from fun h => by have := h.2; rw [beq_eq_false_iff_ne] at hq; exact hq this)
          have HGO := Lib.hid gV
          clear hpl bO1 gV hs1 hs0 hn
          go_wp2_with fail
          go_roundw
          case rel => exact ⟨k + 1, Hk.out, by go_num, Lib.hid (by rw [HTK.out, po_app]; simp only [po, if_neg HN.out, List.append_nil]; exact ⟨rkept HR.out.1 HGO.out, Below.step HR.out.2 HGO.out⟩)⟩
          case measure => have := Hk.out; simp [intOf]; omega
        · have HN := Lib.hid (show (0 ≤ pt ∧ ow p c o.c = pt) from ⟨HP0.out, by simpa using hq⟩)
          have hp2 : decide (0 ≤ pt) = true := decide_eq_true hn
          have o0 := bO1.cell 0 _ rfl
          have o1 := bO1.cell 1 _ rfl
          have o2 := bO1.cell 2 _ rfl
          have o3 := bO1.cell 3 _ rfl
          have o4 := bO1.cell 4 _ rfl
          have o5 := bO1.cell 5 _ rfl
          have o6 := bO1.cell 6 _ rfl
          have gX : Below w1.heap.size w1 (w1.alloc (.cells (List.toArray [.int .i64 o.c, .int .i64 o.n, .int .i64 o.s, .int .i64 o.p, .int .i64 o.l, .int .i64 o.u, .int .i64 o.q]) 55)) := by go_grown
          have hrd := reads_newN w1 1 7 [.int .i64 o.c, .int .i64 o.n, .int .i64 o.s, .int .i64 o.p, .int .i64 o.l, .int .i64 o.u, .int .i64 o.q] 55 rfl
          have HRd := Lib.hid hrd
          have HGV := Lib.hid (Below.step gV gX)
          have HOW := Lib.hid (rkept HR.out.1 (Below.step gV gX))
          have NV := Lib.hid (oc_one o)
          have N1 := Lib.hid (show (po p c pt (os.take k)).length + 1 ≤ maxLen from by unfold maxLen; omega)
          have N2 := Lib.hid (show ((po p c pt (os.take k)).length + 1) * 56 ≤ 140737488355328 from by omega)
          have N3 := Lib.hid (show W.heap.size ≤ (w1.alloc (.cells (List.toArray [.int .i64 o.c, .int .i64 o.n, .int .i64 o.s, .int .i64 o.p, .int .i64 o.l, .int .i64 o.u, .int .i64 o.q]) 55)).heap.size from by have := gV.size; have := HR.out.2.size; have := gX.size; omega)
          clear gV gX hrd hpl bO1 hs1
          go_wp2_with (at_builtin; refine wpList_append_any _ rfl (.tmp 26) (.tmp 28) 27 rfl W.heap.size 55 j0 (Value.agg #[.int .i64 0, .int .i64 0, .int .i64 0, .int .i64 0, .int .i64 0, .int .i64 0, .int .i64 0]) 7 56 Try.underlying27 HJ.out HJ0.out HJ1.out HJ2.out rfl (by decide) _ (po p c pt (os.take k)).length (ov (po p c pt (os.take k))) rfl HOW.out _ (some ⟨w1.heap.size, 0, none⟩) 1 1 (oc o) rfl HRd.out NV.out N1.out N2.out N3.out ?_; intro v8 w8 hown8 hgrow8 hblk8; have HP := Lib.hid (And.intro hown8 hgrow8); clear hown8 hgrow8 hblk8)
          go_roundw
          case rel =>
            refine ⟨k + 1, Hk.out, by go_num, Lib.hid ?_⟩
            rw [HTK.out, po_app]
            simp only [po, if_pos HN.out, List.append_nil]
            rw [List.length_append, ov_snoc]
            have h1 := Below.step HR.out.2 HGV.out
            exact ⟨HP.out.1, Below.grown h1 HP.out.2 h1.size (fun g e => (HOW.out.lt g e).1)⟩
          case measure => have := Hk.out; simp [intOf]; omega
    · have hke : k = os.length := by omega
      subst hke
      have h := HR.out
      rw [List.take_length] at h
      rw [List.take_length]
      obtain ⟨pl, hpl⟩ : ∃ pl, pl = (po p c pt os).length := ⟨_, rfl⟩
      rw [← hpl] at h ⊢
      have HX := Lib.hid h
      have HPL := Lib.hid hpl
      clear HR h hk hlt hpl
      go_wp2_with fail
      go_ret
      exact ⟨_, rfl, by rw [← HPL.out]; exact own_base HX.out.1 (show w.heap.size ≤ W.heap.size by have := HM0.out.2.2; omega), Below.step HM0.out.2.1 HX.out.2⟩
end Go.Proofs.Ytafignfoejefjaa

/-
  Spread of a book.
-/
import Derived.Test.YtafignfoejefjaaRows
import Derived.Test.YtafignfoejefjaaKit
import Derived.Test.YtafignfoejefjaaApp
import Derived.Test.YtafignfoejefjaaQuiet
import Derived.WalkKit
import Derived.ProofKit
import Derived.OpenShut
import Derived.ShutString
import Derived.Below
import Derived.Outline
import Derived.WalkLawsBesides
import Derived.WalkSpells
import Derived.Handy
import Derived.Deep.QuietTactic
import Derived.BigQuiet
import Derived.RegionTactic
import Derived.ChangeAlike
import Derived.Lib.Hide
import Derived.Laws.Rows
import Derived.Laws.Tables
import Derived.Laws.CopyOwn
import Derived.Laws.MakeOwn
import Derived.Laws.Entries
import Derived.Laws.OwnMore
import Derived.Deep.WholeRow
import Derived.Deep.LoopGhost
import Derived.Deep.AppendLies
import Derived.Deep.Draws
import Derived.Maps.AppendAt
import Derived.OwnWalk
import Derived.Deep.RegionHeld3
import Derived.Deep.Cut
import Derived.Deep.CutRange
import Derived.Deep.DeepCutAuto
import Derived.Deep.CutBlock
import Derived.Lib.SliceRun
import Derived.IntWalk
import Derived.Test.YtafignfoejefjaaBkM
import Derived.Test.YtafignfoejefjaaBkO
import Derived.Test.YtafignfoejefjaaBkP
import Derived.Test.YtafignfoejefjaaBkQ
import Derived.Test.YtafignfoejefjaaBkL
import Derived.Test.YtafignfoejefjaaBkR
namespace Go.Proofs.Ytafignfoejefjaa
open Go.ChangeShapes Go.WideShapes Go.ChangeAt Go.RowKit
theorem LvIs.bp_bd {os : List Ord} {n s : Int} {ls : List Lvl} (h : LvIs os n s ls) (hF : Fine os) : 0 ≤ bp ls ∧ bp ls ≤ 9999 := by
  rcases ls with _ | ⟨x, t⟩
  · simp [bp]
  · obtain ⟨e, hk⟩ := h.val x (List.mem_cons_self ..)
    have e2 := congrArg Lvl.k e
    simp only at e2
    rw [e2] at hk
    obtain ⟨o, ho, hh⟩ := (cnt_pos _ os).1 hk
    have ep : o.p = x.p := by unfold hitp at hh; simp at hh; exact hh.2
    have hf := hF o ho
    show 0 ≤ x.p ∧ x.p ≤ 9999
    omega
def spv (l0 l1 : List Lvl) : Int := if bk l0 = true ∧ bk l1 = true then bp l1 - bp l0 else 0
set_option maxHeartbeats 2000000 in
theorem spread_is (p c b2 b r f g : Int) (base cap : Nat) (A : Option Addr) (m : Nat) (os : List Ord) (n : Int) (w : World) (hm : m = os.length) (h : w.ownsRow base 55 7 (.slice A m cap) m (ov os)) (hl : os.length ≤ 40) (hF : Fine os) : Calls Try.prog 11 #[.agg #[.int .i64 p, .int .i64 c, .int .i64 b2, .int .i64 b, .int .i64 r, .int .i64 f, .int .i64 g, .slice A m cap], .int .i64 n] w fun e w' => ∃ l0 l1 : List Lvl, e = .returned (.tuple #[.int .i64 (spv l0 l1), .bool (bk l0 && bk l1)]) ∧ LvIs os n 0 l0 ∧ LvIs os n 1 l1 ∧ Below w.heap.size w w' := by
  have HC := Lib.hid (fun (s : Int) (W : World) (hb : Below w.heap.size w W) => best_is p c b2 b r f g base cap A m os n s W hm (rkept h hb) hl hF)
  have HF := Lib.hid hF
  clear hm h hl hF
  go_enter Try.func11, Try.ntmps11
  go_wp2_with fail
  have hB : Below w.heap.size w (w.alloc (.cells (List.toArray [.int .i64 p, .int .i64 c, .int .i64 b2, .int .i64 b, .int .i64 r, .int .i64 f, .int .i64 g, .slice A m cap]) 29)) := by go_grown
  have bB := Bl.new w [.int .i64 p, .int .i64 c, .int .i64 b2, .int .i64 b, .int .i64 r, .int .i64 f, .int .i64 g, .slice A m cap] 29
  refine (HC.out 0 _ hB).mono ?_
  rintro e w1 ⟨l0, rfl, h0, hb1⟩
  have HB1 := Lib.hid (Below.step hB hb1)
  have bB1 := bB.below hb1
  have H0 := Lib.hid h0
  have d0 := (h0.bp_bd HF.out)
  obtain ⟨P0, hP0⟩ : ∃ P0, P0 = bp l0 := ⟨_, rfl⟩
  obtain ⟨K0, hK0⟩ : ∃ K0, K0 = bk l0 := ⟨_, rfl⟩
  rw [← hP0] at d0
  have x0 : 0 ≤ P0 := d0.1
  have x1 : P0 ≤ 9999 := d0.2
  rw [← hP0, ← hK0]
  have HP0 := Lib.hid (And.intro hP0 hK0)
  clear hB hb1 bB h0 d0 hP0 hK0
  have c0 := bB1.cell 0 _ rfl
  have c1 := bB1.cell 1 _ rfl
  have c2 := bB1.cell 2 _ rfl
  have c3 := bB1.cell 3 _ rfl
  have c4 := bB1.cell 4 _ rfl
  have c5 := bB1.cell 5 _ rfl
  have c6 := bB1.cell 6 _ rfl
  have c7 := bB1.cell 7 _ rfl
  clear bB1
  go_wp2_with fail
  refine (HC.out 1 _ HB1.out).mono ?_
  rintro e w2 ⟨l1, rfl, h1, hb2⟩
  have HB2 := Lib.hid (Below.step HB1.out hb2)
  have H1 := Lib.hid h1
  have d1 := (h1.bp_bd HF.out)
  obtain ⟨P1, hP1⟩ : ∃ P1, P1 = bp l1 := ⟨_, rfl⟩
  obtain ⟨K1, hK1⟩ : ∃ K1, K1 = bk l1 := ⟨_, rfl⟩
  rw [← hP1] at d1
  have x2 : 0 ≤ P1 := d1.1
  have x3 : P1 ≤ 9999 := d1.2
  rw [← hP1, ← hK1]
  have HP1 := Lib.hid (And.intro hP1 hK1)
  clear hb2 h1 d1 hP1 hK1 c0 c1 c2 c3 c4 c5 c6 c7
  rcases K0 with _ | _
  · have e : spv l0 l1 = 0 ∧ (bk l0 && bk l1) = false := by unfold spv; rw [← HP0.out.2]; simp
    have HE := Lib.hid e
    clear e
    go_wp2_with fail
    go_ret2
    exact ⟨l0, l1, by rw [HE.out.1, HE.out.2]; rfl, H0.out, H1.out, HB2.out⟩
  rcases K1 with _ | _
  · have e : spv l0 l1 = 0 ∧ (bk l0 && bk l1) = false := by unfold spv; rw [← HP1.out.2]; simp
    have HE := Lib.hid e
    clear e
    go_wp2_with fail
    go_ret2
    exact ⟨l0, l1, by rw [HE.out.1, HE.out.2]; rfl, H0.out, H1.out, HB2.out⟩
  · have e : spv l0 l1 = P1 - P0 ∧ (bk l0 && bk l1) = true := by unfold spv; rw [← HP0.out.2, ← HP1.out.2, ← HP0.out.1, ← HP1.out.1]; simp
    have HE := Lib.hid e
    clear e
    go_wp2_with fail
    go_ret2
    exact ⟨l0, l1, by rw [HE.out.1, HE.out.2]; rfl, H0.out, H1.out, HB2.out⟩
end Go.Proofs.Ytafignfoejefjaa

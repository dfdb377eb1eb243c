/-
  The price at which most could be exchanged.
-/
import Derived.Test.YtafignfoejefjaaRows
import Derived.Test.YtafignfoejefjaaKit
import Derived.Test.YtafignfoejefjaaApp
import Derived.Test.YtafignfoejefjaaQuiet
import Derived.WalkKit
import Derived.ProofKit
import Derived.OpenShut
import Derived.ShutString
import Derived.Below
import Derived.Outline
import Derived.WalkLawsBesides
import Derived.WalkSpells
import Derived.Handy
import Derived.Deep.QuietTactic
import Derived.BigQuiet
import Derived.RegionTactic
import Derived.ChangeAlike
import Derived.Lib.Hide
import Derived.Laws.Rows
import Derived.Laws.Tables
import Derived.Laws.CopyOwn
import Derived.Laws.MakeOwn
import Derived.Laws.Entries
import Derived.Laws.OwnMore
import Derived.Deep.WholeRow
import Derived.Deep.LoopGhost
import Derived.Deep.AppendLies
import Derived.Deep.Draws
import Derived.Maps.AppendAt
import Derived.OwnWalk
import Derived.Deep.RegionHeld3
import Derived.Deep.Cut
import Derived.Deep.CutRange
import Derived.Deep.DeepCutAuto
import Derived.Deep.CutBlock
import Derived.Lib.SliceRun
import Derived.IntWalk
import Derived.Test.YtafignfoejefjaaBkM
import Derived.Test.YtafignfoejefjaaBkO
import Derived.Test.YtafignfoejefjaaBkP
import Derived.Test.YtafignfoejefjaaBkQ
import Derived.Test.YtafignfoejefjaaBkL
import Derived.Test.YtafignfoejefjaaBkPr
import Derived.Test.YtafignfoejefjaaBkE
namespace Go.Proofs.Ytafignfoejefjaa
open Go.ChangeShapes Go.WideShapes Go.ChangeAt Go.RowKit
open Go.Sort in
theorem SR.cell {w : World} {base n c : Nat} {A : Option Addr} {l : List Int} (h : SR w base A n c l) {k : Nat} {x : Int} (hk : l[k]? = some x) : ∃ g, A = some ⟨g, 0, none⟩ ∧ g < w.heap.size ∧ w.cell? ⟨g, k, none⟩ = some (.int .i64 x) := by
  obtain ⟨hn, hA⟩ := h
  have hlt : k < l.length := by
    rcases Nat.lt_or_ge k l.length with h | h
    · exact h
    · rw [List.getElem?_eq_none h] at hk; cases hk
  obtain ⟨g, e, _, h2, _, h4⟩ := hA (by omega)
  refine ⟨g, e, h2, ?_⟩
  have := (h4 k (by simpa using hlt)).1
  rw [Nat.zero_add] at this
  rw [this]
  rw [List.getElem?_eq_getElem hlt] at hk
  injection hk with hk
  simp [hlt, hk]
set_option maxRecDepth 100000 in
set_option maxHeartbeats 8000000 in
theorem cross_is (p c n b r f g : Int) (base cap : Nat) (A : Option Addr) (m : Nat) (os : List Ord) (nm : Int) (w : World) (hm : m = os.length) (h : w.ownsRow base 55 7 (.slice A m cap) m (ov os)) (hl : os.length ≤ 40) (hF : Fine os) : Calls Try.prog 14 #[.agg #[.int .i64 p, .int .i64 c, .int .i64 n, .int .i64 b, .int .i64 r, .int .i64 f, .int .i64 g, .slice A m cap], .int .i64 nm] w fun e w' => ∃ ps : List Int, e = .returned (.tuple #[.int .i64 (pc os nm ps).1, .int .i64 (pc os nm ps).2]) ∧ PrIs os nm ps ∧ Below w.heap.size w w' := by
  have HC := Lib.hid (fun (pa : Int) (W : World) (hb : Below w.heap.size w W) => exch_is p c n b r f g base cap A m os nm pa W hm (rkept h hb) hl hF)
  have HP := Lib.hid (fun (W : World) (hb : Below w.heap.size w W) => prices_is p c n b r f g base cap A m os nm W hm (rkept h hb) hl hF)
  clear hm h hl hF
  go_enter Try.func14, Try.ntmps14
  go_wp2_with fail
  have hB : Below w.heap.size w (w.alloc (.cells (List.toArray [.int .i64 p, .int .i64 c, .int .i64 n, .int .i64 b, .int .i64 r, .int .i64 f, .int .i64 g, .slice A m cap]) 29)) := by go_grown
  have bB := Bl.new w [.int .i64 p, .int .i64 c, .int .i64 n, .int .i64 b, .int .i64 r, .int .i64 f, .int .i64 g, .slice A m cap] 29
  refine (HP.out _ hB).mono ?_
  rintro e w1 ⟨A2, c2, ps, rfl, hps, hl2, hsr, hb1⟩
  have HB1 := Lib.hid (Below.step hB hb1)
  have HBB := Lib.hid (bB.below hb1)
  have HPS := Lib.hid hps
  have HL2 := Lib.hid hl2
  have HSR := Lib.hid hsr
  clear hB hb1 bB hps hl2 hsr
  go_wp2_with fail
  go_loopw [4, 5, 13] (fun x y j wr => ∃ k : Nat, k ≤ ps.length ∧ j = .int .i64 (k : Int) ∧ x = .int .i64 (pc os nm (ps.take k)).1 ∧ y = .int .i64 (pc os nm (ps.take k)).2 ∧ Hid (Below w1.heap.size w1 wr)) (fun _ _ j _ => ps.length + 1 - (intOf j).toNat)
  case atStart => exact ⟨0, Nat.zero_le _, rfl, rfl, rfl, Lib.hid (Below.refl _ _)⟩
  case round =>
    obtain ⟨k, hk, rfl, rfl, rfl, HR⟩ := hrel
    have k0 : (0 : Int) ≤ (k : Int) := by omega
    by_cases hlt : k < ps.length
    · obtain ⟨pa, hpa⟩ : ∃ pa, ps[k]? = some pa := ⟨ps[k], List.getElem?_eq_getElem hlt⟩
      obtain ⟨g2, rfl, hg2, hcl⟩ := HSR.out.cell hpa
      have d0 : wr.cell? ⟨g2, k, none⟩ = some (.int .i64 pa) := (HR.out.cell (p := ⟨g2, k, none⟩) hg2).trans hcl
      have q1 : (k : Int) < (ps.length : Int) := by omega
      have q2 : (ps.length : Int) ≤ 40 := by have := HL2.out; omega
      have Hk := Lib.hid hlt
      have HTK := Lib.hid (show pc os nm (ps.take (k + 1)) = pstep os nm (pc os nm (ps.take k)) pa by rw [List.take_add_one, hpa]; exact pc_snoc ..)
      have HC2 := Lib.hid (HC.out pa wr (Below.step HB1.out HR.out))
      have bB := HBB.out.below HR.out
      have c0 := bB.cell 0 _ rfl
      have c1 := bB.cell 1 _ rfl
      have c2 := bB.cell 2 _ rfl
      have c3 := bB.cell 3 _ rfl
      have c4 := bB.cell 4 _ rfl
      have c5 := bB.cell 5 _ rfl
      have c6 := bB.cell 6 _ rfl
      have c7 := bB.cell 7 _ rfl
      obtain ⟨X, hX⟩ : ∃ X, X = pc os nm (ps.take k) := ⟨_, rfl⟩
      rw [← hX] at HTK ⊢
      obtain ⟨E, hE⟩ : ∃ E, E = exv os nm pa := ⟨_, rfl⟩
      rw [← hE] at HC2
      have HE := Lib.hid hE
      clear hpa hg2 hcl hlt hk bB hX hE
      go_wp2_with fail
      refine HC2.out.mono ?_
      rintro e2 w2 ⟨rfl, hb2⟩
      have HR2 := Lib.hid (Below.step HR.out hb2)
      clear hb2 c0 c1 c2 c3 c4 c5 c6 c7 d0
      by_cases hg : X.2 < E
      · have HG := Lib.hid hg
        go_wp2_with fail
        go_roundw
        case rel =>
          have e1 : pc os nm (ps.take (k + 1)) = (pa, E) := by rw [HTK.out]; unfold pstep; rw [← HE.out, if_pos HG.out]
          exact ⟨k + 1, Hk.out, by go_num, by rw [e1], by rw [e1], HR2⟩
        case measure => have := Hk.out; simp [intOf]; omega
      · have HG := Lib.hid hg
        have dg : decide (X.2 < E) = false := decide_eq_false hg
        clear hg
        go_wp2_with fail
        go_roundw
        case rel =>
          have e1 : pc os nm (ps.take (k + 1)) = X := by rw [HTK.out]; unfold pstep; rw [← HE.out, if_neg (by have := HG.out; omega)]
          exact ⟨k + 1, Hk.out, by go_num, by rw [e1], by rw [e1], HR2⟩
        case measure => have := Hk.out; simp [intOf]; omega
    · have hke : k = ps.length := by omega
      subst hke
      have HR2 := Lib.hid (Below.step HB1.out HR.out)
      rw [List.take_length]
      obtain ⟨X, hX⟩ : ∃ X, X = pc os nm ps := ⟨_, rfl⟩
      rw [← hX]
      have HX := Lib.hid hX
      clear HR hk hlt hX
      go_wp2_with fail
      go_ret2
      exact ⟨ps, by rw [← HX.out]; rfl, HPS.out, HR2.out⟩
end Go.Proofs.Ytafignfoejefjaa

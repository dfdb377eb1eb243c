/-
  What is picked.
-/
import Derived.Test.YtdlgpbmeeiakdaaRows
import Derived.Test.YtdlgpbmeeiakdaaKit
import Derived.Test.YtdlgpbmeeiakdaaApp
import Derived.Test.YtdlgpbmeeiakdaaEv
import Derived.Test.YtdlgpbmeeiakdaaEvP
import Derived.Test.YtdlgpbmeeiakdaaEvQ
import Derived.Test.YtdlgpbmeeiakdaaQuiet
import Derived.Test.YtdlgpbmeeiakdaaPlA
import Derived.Test.YtdlgpbmeeiakdaaPlB
import Derived.WalkKit
import Derived.ProofKit
import Derived.OpenShut
import Derived.ShutString
import Derived.Below
import Derived.Outline
import Derived.WalkLawsBesides
import Derived.WalkSpells
import Derived.Handy
import Derived.Deep.QuietTactic
import Derived.BigQuiet
import Derived.RegionTactic
import Derived.ChangeAlike
import Derived.Lib.Hide
import Derived.Laws.Rows
import Derived.Laws.Tables
import Derived.Laws.CopyOwn
import Derived.Laws.MakeOwn
import Derived.Laws.Entries
import Derived.Laws.OwnMore
import Derived.Deep.WholeRow
import Derived.Deep.LoopGhost
import Derived.Deep.AppendLies
import Derived.Deep.Draws
import Derived.Maps.AppendAt
import Derived.OwnWalk
import Derived.Deep.RegionHeld3
import Derived.Deep.Cut
import Derived.Deep.CutRange
import Derived.Deep.DeepCutAuto
import Derived.Deep.CutBlock
import Derived.Lib.SliceRun
import Derived.IntWalk
namespace Go.Proofs.Ytdlgpbmeeiakdaa
open Go.ChangeShapes Go.WideShapes Go.ChangeAt Go.RowKit
/-- What 'Picked' hands back: a row of counts of its own. -/
def PRes (m : Nat) (l : List Ev) (w : World) (e : Ending) (w' : World) : Prop := ∃ O, e = .returned (.slice (some ⟨O, 0, none⟩) m m) ∧ w.heap.size < O ∧ Hid (Cts w' O m (fun j => cnt (j : Int) l)) ∧ Below w.heap.size w w'
theorem cnt_same (l : List Ev) (k : Nat) (ev : Ev) (h : l[k]? = some ev) (m : Nat) (hn : ∀ j : Nat, j < m → isP (j : Int) ev = false) : ∀ j : Nat, j < m → cnt (j : Int) (l.take k) = cnt (j : Int) (l.take (k + 1)) := by
  intro j hj
  rw [cnt_take _ l k ev h]
  unfold cstep
  rw [hn j hj]
  simp
theorem cnt_more (l : List Ev) (k : Nat) (t : Nat) (en : Int) (h : l[k]? = some ((3 : Int), (t : Int), en)) (m : Nat) : ∀ j : Nat, j < m → (if j = t then cnt (t : Int) (l.take k) + 1 else cnt (j : Int) (l.take k)) = cnt (j : Int) (l.take (k + 1)) := by
  intro j hj
  rw [cnt_take _ l k _ h]
  unfold cstep
  by_cases hjt : j = t
  · subst hjt
    rw [if_pos rfl, isP_yes (j : Int) ((3 : Int), (j : Int), en) rfl rfl]
    simp
  · rw [if_neg hjt, isP_no2 (j : Int) ((3 : Int), (t : Int), en) (by show ¬ (t : Int) = (j : Int); omega)]
    simp
theorem cnt_zero (a : Int) : cnt a ([] : List Ev) = 0 := rfl
theorem made_cts (m : Nat) (l : List Ev) (w : World) : Cts (w.alloc (.cells (madeCells #[Value.int .i64 0] m) 3)) w.heap.size m (fun j => cnt (j : Int) (l.take 0)) := by
  refine ⟨_, heap_alloc_new w _, by rw [size_madeCells], fun j hj => ?_⟩
  have h := toList_madeCells_one (.int .i64 0) m
  show (madeCells #[.int .i64 0] m)[j]? = _
  rw [← Array.getElem?_toList, h, List.getElem?_replicate, if_pos hj]
  rfl
set_option maxRecDepth 100000 in
set_option maxHeartbeats 4000000 in
theorem picked_is (p c n b r f g : Int) (m : Nat) (A : Option Addr) (cap : Nat) (l : List Ev) (w : World) (h : EAt w A l) (hl : l.length ≤ 100000) (hm : (m : Int) = p + 2 * (n * b)) (hnb : 1 ≤ n * b ∧ n * b ≤ 12) (hp : 1 ≤ p ∧ p ≤ 6) :
    Calls Try.prog 28 #[.agg #[.int .i64 p, .int .i64 c, .int .i64 n, .int .i64 b, .int .i64 r, .int .i64 f, .int .i64 g], .slice A l.length cap] w (PRes m l w) := by
  have H := Lib.hid h
  have HAG := Lib.hid (fun W => show Calls Try.prog 15 #[.agg #[.int .i64 p, .int .i64 c, .int .i64 n, .int .i64 b, .int .i64 r, .int .i64 f, .int .i64 g]] W (fun e w' => e = .returned (.int .i64 (m : Int)) ∧ Below W.heap.size W w') from by rw [hm]; exact agents_i p c n b r f g W hnb hp)
  have hm2 : m ≤ 30 := by omega
  have m0 : (0 : Int) ≤ (m : Int) := by omega
  have m1 : (m : Int) ≤ 30 := by omega
  have hmp : (0 : Int) < (m : Int) := by omega
  have hmx : max (0 : Int) (m : Int) = (m : Int) := by omega
  have hmk : ∀ W : World, (Instr.makeSlice 35 (.int .i64 (m : Int)) (.int .i64 (m : Int))).run Try.prog W = .ok (.slice (some ⟨W.heap.size, 0, none⟩) m m) (W.alloc (.cells (madeCells (Value.int .i64 0).cells (m * 1)) 3)) := fun W => makeI m (by omega) W
  clear h hm hnb hp
  go_enter Try.func28, Try.ntmps28
  go_wp2_with fail
  refine (HAG.out _).mono ?_
  rintro e w1 ⟨rfl, hb1⟩
  have hB1 : Below w.heap.size w w1 := Below.step (by go_grown) hb1
  have hz1 := hb1.size
  simp only [World.size_alloc] at hz1
  have HZ1 := Lib.hid (show w.heap.size < w1.heap.size from by omega)
  have HM := Lib.hid (made_cts m l w1)
  clear hb1 hz1
  go_wp2_with fail
  obtain ⟨W2, hW2⟩ : ∃ W2, W2 = w1.alloc (.cells (madeCells #[Value.int .i64 0] m) 3) := ⟨_, rfl⟩
  have hC2 := HM.out
  rw [← hW2] at hC2
  have hB2 : Below w.heap.size w W2 := by rw [hW2]; exact hB1.alloc hB1.size _
  rw [← hW2]
  have HC2 := Lib.hid hC2
  generalize w1.heap.size = O at *
  clear hW2 hC2 hB1 HM
  go_loopw [14] (fun i wr => ∃ k : Nat, k ≤ l.length ∧ i = .int .i64 (k : Int) ∧ Hid (Cts wr O m (fun j => cnt (j : Int) (l.take k))) ∧ Below w.heap.size w wr) (fun i _ => l.length + 1 - (intOf i).toNat)
  case atStart => exact ⟨0, Nat.zero_le _, rfl, HC2, hB2⟩
  case round =>
    clear HC2 hB2 hmk
    obtain ⟨k, hk, rfl, HC, hB⟩ := hrel
    have hs := hB.size
    by_cases hlt : k < l.length
    · obtain ⟨ev, hev⟩ : ∃ e, l[k]? = some e := ⟨_, List.getElem?_eq_getElem hlt⟩
      obtain ⟨g, hA, hg, c0, c1, c2, c3, c4, c5, c6, c7, c8, c9, c10, c11⟩ := H.out.cells k ev hev
      obtain ⟨ek, ex, en⟩ := ev
      dsimp only at c0 c1 c2
      have d0 := (hB.cell (p := ⟨g, k * 12, none⟩) hg).trans c0
      have d1 := (hB.cell (p := ⟨g, k * 12 + 1, none⟩) hg).trans c1
      have d2 := (hB.cell (p := ⟨g, k * 12 + 2, none⟩) hg).trans c2
      have d3 := (hB.cell (p := ⟨g, k * 12 + 3, none⟩) hg).trans c3
      have d4 := (hB.cell (p := ⟨g, k * 12 + 4, none⟩) hg).trans c4
      have d5 := (hB.cell (p := ⟨g, k * 12 + 5, none⟩) hg).trans c5
      have d6 := (hB.cell (p := ⟨g, k * 12 + 6, none⟩) hg).trans c6
      have d7 := (hB.cell (p := ⟨g, k * 12 + 7, none⟩) hg).trans c7
      have d8 := (hB.cell (p := ⟨g, k * 12 + 8, none⟩) hg).trans c8
      have d9 := (hB.cell (p := ⟨g, k * 12 + 9, none⟩) hg).trans c9
      have d10 := (hB.cell (p := ⟨g, k * 12 + 10, none⟩) hg).trans c10
      have d11 := (hB.cell (p := ⟨g, k * 12 + 11, none⟩) hg).trans c11
      subst hA
      clear c0 c1 c2 c3 c4 c5 c6 c7 c8 c9 c10 c11
      have k0 : (0 : Int) ≤ (k : Int) := by omega
      have k1 : (k : Int) < (l.length : Int) := by omega
      have k2 : (l.length : Int) ≤ 100000 := by omega
      have hOl : O < wr.heap.size := (HC.out.cell 0 (by omega)).2.2
      by_cases hk3 : ek = 3
      · subst hk3
        by_cases hx0 : 0 ≤ ex
        · by_cases hxm : ex < (m : Int)
          · obtain ⟨t, rfl⟩ : ∃ t : Nat, ex = (t : Int) := ⟨ex.toNat, by omega⟩
            have htm : t < m := by omega
            obtain ⟨y0, y1, _⟩ := HC.out.cell t htm
            have hcb := cnt_le (t : Int) (l.take k)
            rw [List.length_take] at hcb
            have HX := Lib.hid (cnt_more l k t en hev m)
            have HSET := Lib.hid (fun (W : World) (h : Cts W O m (fun j => cnt (j : Int) (l.take k))) => (h.set t htm (cnt (t : Int) (l.take k) + 1)).ext HX.out)
            have hcN : cnt (t : Int) (l.take k) ≤ 100000 := by omega
            clear hcb
            generalize hCN : cnt (t : Int) (l.take k) = C at y0 hcN HSET
            have q0 : (0 : Int) ≤ (C : Int) := by omega
            have q1 : (C : Int) ≤ 100000 := by omega
            clear hCN HX
            go_wp2_with fail
            go_roundw
            case rel => exact ⟨k + 1, by omega, by go_num, Lib.hid ((HSET.out _ HC.out).below ((Below.refl _ _).alloc (Nat.le_refl _) _)), (hB.setCell (p := ⟨O, t, none⟩) (Nat.le_of_lt HZ1.out) _).alloc (by simpa using hs) _⟩
            case measure => simp [intOf]; omega
          · have e2 : decide (ex < (m : Int)) = false := decide_eq_false hxm
            have HS := Lib.hid (HC.out.ext (cnt_same l k ((3 : Int), ex, en) hev m (by intro j hj; exact isP_no2 _ _ (by show ¬ ex = (j : Int); omega))))
            go_wp2_with fail
            go_roundw
            case rel => exact ⟨k + 1, by omega, by go_num, Lib.hid (HS.out.below (by go_grown)), hB.alloc hs _⟩
            case measure => simp [intOf]; omega
        · have e2 : decide (0 ≤ ex) = false := decide_eq_false hx0
          have HS := Lib.hid (HC.out.ext (cnt_same l k ((3 : Int), ex, en) hev m (by intro j hj; exact isP_no2 _ _ (by show ¬ ex = (j : Int); omega))))
          go_wp2_with fail
          go_roundw
          case rel => exact ⟨k + 1, by omega, by go_num, Lib.hid (HS.out.below (by go_grown)), hB.alloc hs _⟩
          case measure => simp [intOf]; omega
      · have e2 : (ek == 3) = false := by rw [beq_eq_false_iff_ne]; exact hk3
        have HS := Lib.hid (HC.out.ext (cnt_same l k (ek, ex, en) hev m (by intro j hj; exact isP_no1 _ _ hk3)))
        go_wp2_with fail
        go_roundw
        case rel => exact ⟨k + 1, by omega, by go_num, Lib.hid (HS.out.below (by go_grown)), hB.alloc hs _⟩
        case measure => simp [intOf]; omega
    · obtain rfl : k = l.length := by omega
      have hd : decide ((l.length : Int) < (l.length : Int)) = false := decide_eq_false (by omega)
      go_wp2_with fail
      go_ret
      exact ⟨O, rfl, HZ1.out, by have h := HC.out; rw [List.take_length] at h; exact Lib.hid h, hB⟩
end Go.Proofs.Ytdlgpbmeeiakdaa

/-
  Whether a line can tell an event.
-/
import Derived.Test.YtafnipgeeampjaaGreatDoorRows
import Derived.Test.YtafnipgeeampjaaGreatDoorKit
import Derived.Test.YtafnipgeeampjaaGreatDoorApp
import Derived.Test.YtafnipgeeampjaaGreatDoorQuiet
import Derived.WalkKit
import Derived.ProofKit
import Derived.OpenShut
import Derived.ShutString
import Derived.Below
import Derived.Outline
import Derived.WalkLawsBesides
import Derived.WalkSpells
import Derived.Handy
import Derived.Deep.QuietTactic
import Derived.BigQuiet
import Derived.RegionTactic
import Derived.ChangeAlike
import Derived.Lib.Hide
import Derived.Laws.Rows
import Derived.Laws.Tables
import Derived.Laws.CopyOwn
import Derived.Laws.MakeOwn
import Derived.Laws.Entries
import Derived.Laws.OwnMore
import Derived.Deep.WholeRow
import Derived.Deep.LoopGhost
import Derived.Deep.AppendLies
import Derived.Deep.Draws
import Derived.Maps.AppendAt
import Derived.OwnWalk
import Derived.Deep.RegionHeld3
import Derived.Deep.Cut
import Derived.Deep.CutRange
import Derived.Deep.DeepCutAuto
import Derived.Deep.CutBlock
import Derived.Lib.SliceRun
import Derived.IntWalk
import Derived.Laws.Strings
import Derived.Lib.Bytealg
import Derived.Lib.Strings
import Derived.Laws.Externs
import Derived.Test.YtafnipgeeampjaaGreatDoorSrW
import Derived.Test.YtafnipgeeampjaaGreatDoorSrN
import Derived.Shelf.Strings.Search3
namespace Go.Proofs.YtafnipgeeampjaaGreatDoor
open Go.ChangeShapes Go.WideShapes Go.ChangeAt Go.RowKit
set_option maxRecDepth 100000 in
set_option maxHeartbeats 4000000 in
theorem small_is (a b : Int) (B : Nat) (w : World) (h : Bl B [.int .i64 a, .int .i64 b] w) : Calls Tryz.prog 42 #[.slice (some ⟨B, 0, none⟩) 2 2] w fun e w' => e = .returned (.bool (small a && small b)) ∧ w = w' := by
  obtain ⟨zs, hzs⟩ : ∃ zs, zs = [a, b] := ⟨_, rfl⟩
  have hz : ∀ (j : Nat) (x : Int), zs[j]? = some x → w.cell? ⟨B, j, none⟩ = some (.int .i64 x) := by
    intro j x hx
    refine h.cell j _ ?_
    rw [hzs] at hx
    rcases j with _ | _ | j
    · simp at hx; subst hx; rfl
    · simp at hx; subst hx; rfl
    · simp at hx
  have HZ := Lib.hid hz
  have HL : Hid (zs.length = 2) := Lib.hid (by rw [hzs]; rfl)
  have HE : Hid ((small a && small b) = zs.all small) := Lib.hid (by rw [hzs]; simp)
  clear hz hzs h
  go_enter Tryz.func42, Tryz.ntmps42
  go_wp2_with fail
  go_loopw [7] (fun vk wr => ∃ (k : Nat), k ≤ 2 ∧ vk = .int .i64 (k : Int) ∧ Hid ((zs.take k).all small = true) ∧ w = wr) (fun vk _ => 3 - (intOf vk).toNat)
  case atStart => exact ⟨0, by omega, rfl, Lib.hid rfl, rfl⟩
  case round =>
    obtain ⟨k, hk, rfl, hsm, rfl⟩ := hrel
    have k0 : (0 : Int) ≤ (k : Int) := by omega
    by_cases hkn : k < 2
    · obtain ⟨x, hx⟩ : ∃ x, zs[k]? = some x := ⟨_, List.getElem?_eq_getElem (by rw [HL.out]; exact hkn)⟩
      have c0 := HZ.out k x hx
      have q1 : (k : Int) < 2 := by omega
      have HX := Lib.hid (And.intro hx hkn)
      clear hx hkn hk
      by_cases h1 : x < -9999999
      · go_wp2_with fail
        go_ret
        refine ⟨?_, rfl⟩
        rw [HE.out, show zs.all small = false from List.all_eq_false.2 ⟨x, List.mem_of_getElem? HX.out.1, by unfold small; rw [decide_eq_false (show ¬ (-9999999 : Int) ≤ x by omega), Bool.false_and]; decide⟩]
        first | done | rfl
      · by_cases h2 : 9999999 < x
        · go_wp2_with fail
          go_ret
          refine ⟨?_, rfl⟩
          rw [HE.out, show zs.all small = false from List.all_eq_false.2 ⟨x, List.mem_of_getElem? HX.out.1, by unfold small; rw [decide_eq_false (show ¬ x ≤ 9999999 by omega), Bool.and_false]; decide⟩]
          first | done | rfl
        · have HXS : Hid (small x = true) := Lib.hid (by unfold small; rw [decide_eq_true (show -9999999 ≤ x by omega), decide_eq_true (show x ≤ 9999999 by omega)]; rfl)
          go_wp2_with fail
          go_roundw
          case rel =>
            refine ⟨k + 1, HX.out.2, by go_num, Lib.hid ?_, by first | rfl | trivial⟩
            rw [List.take_add_one, HX.out.1, List.all_append, hsm.out]
            simp [HXS.out]
          case measure => have := HX.out.2; simp [intOf]; omega
    · have hke : k = 2 := by omega
      subst hke
      have hfin := hsm.out
      rw [List.take_of_length_le (by rw [HL.out]; exact Nat.le_refl _)] at hfin
      have HF := Lib.hid hfin
      clear hfin hk hkn
      go_wp2_with fail
      go_ret
      exact ⟨by rw [HE.out, HF.out]; first | done | rfl, rfl⟩
theorem has_nl (l : List UInt8) (w : World) : Calls Tryz.prog 43 #[.string (Bs l), .string ⟨#[10]⟩] w fun e w' => e = .returned (.bool (decide ((10 : UInt8) ∈ l))) ∧ w = w' := by
  have c := Any.strings_Contains_one lays144 (Bs l) 10 w
  rw [Bs_list, index_mem] at c
  exact c.mono fun e w' h => ⟨h.1, h.2.symm⟩
theorem nil_eq {l : List UInt8} (h : l ≠ []) : (l == []) = false := by
  cases l with
  | nil => exact absurd rfl h
  | cons a t => rfl
set_option maxRecDepth 100000 in
set_option maxHeartbeats 4000000 in
theorem told_is (k a n : Int) (l : List UInt8) (w : World) : Calls Tryz.prog 26 #[.agg (List.toArray [.int .i64 k, .int .i64 a, .int .i64 n, .string (Bs l)])] w fun e w' => e = .returned (.bool (tellM ⟨k, a, n, l⟩)) ∧ Below w.heap.size w w' := by
  rcases hsm : (small a && small n) with _ | _
  · have HQ := Lib.hid hsm
    have hb := Bl.new w [.int .i64 k, .int .i64 a, .int .i64 n, .string (Bs l)] 40
    have hg : Below w.heap.size w (w.alloc (.cells (List.toArray [.int .i64 k, .int .i64 a, .int .i64 n, .string (Bs l)]) 40)) := by go_grown
    obtain ⟨W, hW⟩ : ∃ W, W = w.alloc (.cells (List.toArray [.int .i64 k, .int .i64 a, .int .i64 n, .string (Bs l)]) 40) := ⟨_, rfl⟩
    obtain ⟨EB, hEB⟩ : ∃ EB, EB = w.heap.size := ⟨_, rfl⟩
    rw [← hW] at hb hg
    rw [← hEB] at hb
    have HS := Lib.hid (And.intro hb hg)
    have HW := Lib.hid hW
    have HEB := Lib.hid hEB
    clear hb hg hW hEB
    have HT : Hid (tellM ⟨k, a, n, l⟩ = false) := Lib.hid (by unfold tellM; dsimp only; rw [hsm]; rfl)
    clear hsm
    go_enter Tryz.func26, Tryz.ntmps26
    go_upto_region 1 with fail
    rw [← HW.out, ← HEB.out]
    have y0 := HS.out.1.cell 0 _ rfl
    have y1 := HS.out.1.cell 1 _ rfl
    have y2 := HS.out.1.cell 2 _ rfl
    have y3 := HS.out.1.cell 3 _ rfl
    go_wp2_with fail
    refine (small_is a n _ _ (Bl.new _ [.int .i64 a, .int .i64 n] _)).mono ?_
    rintro e1 w1 ⟨rfl, hw1⟩
    rw [HQ.out]
    have hb1 : Below W.heap.size W w1 := by rw [← hw1]; go_grown
    have H1 := Lib.hid (And.intro (HS.out.1.below hb1) (Below.step HS.out.2 hb1))
    clear y0 y1 y2 y3 hb1 hw1
    have y0 := H1.out.1.cell 0 _ rfl
    have y1 := H1.out.1.cell 1 _ rfl
    have y2 := H1.out.1.cell 2 _ rfl
    have y3 := H1.out.1.cell 3 _ rfl
    go_wp2_with fail
    go_ret
    exact ⟨by rw [HT.out]; first | done | rfl, H1.out.2⟩
  · have HQ := Lib.hid hsm
    by_cases k1 : k = 1
    · subst k1
      by_cases hn : n = 0
      · have q : (n == 0) = true := by rw [hn]; rfl
        rcases hm : decide ((10 : UInt8) ∈ l) with _ | _
        · have HM := Lib.hid hm
          have hb := Bl.new w [.int .i64 1, .int .i64 a, .int .i64 n, .string (Bs l)] 40
          have hg : Below w.heap.size w (w.alloc (.cells (List.toArray [.int .i64 1, .int .i64 a, .int .i64 n, .string (Bs l)]) 40)) := by go_grown
          obtain ⟨W, hW⟩ : ∃ W, W = w.alloc (.cells (List.toArray [.int .i64 1, .int .i64 a, .int .i64 n, .string (Bs l)]) 40) := ⟨_, rfl⟩
          obtain ⟨EB, hEB⟩ : ∃ EB, EB = w.heap.size := ⟨_, rfl⟩
          rw [← hW] at hb hg
          rw [← hEB] at hb
          have HS := Lib.hid (And.intro hb hg)
          have HW := Lib.hid hW
          have HEB := Lib.hid hEB
          clear hb hg hW hEB
          have HT : Hid (tellM ⟨1, a, n, l⟩ = true) := Lib.hid (by unfold tellM; dsimp only; rw [hsm, if_pos rfl, decide_eq_true hn, decide_eq_true (of_decide_eq_false hm)]; rfl)
          clear hsm hm hn
          go_enter Tryz.func26, Tryz.ntmps26
          go_upto_region 1 with fail
          rw [← HW.out, ← HEB.out]
          have y0 := HS.out.1.cell 0 _ rfl
          have y1 := HS.out.1.cell 1 _ rfl
          have y2 := HS.out.1.cell 2 _ rfl
          have y3 := HS.out.1.cell 3 _ rfl
          go_wp2_with fail
          refine (small_is a n _ _ (Bl.new _ [.int .i64 a, .int .i64 n] _)).mono ?_
          rintro e1 w1 ⟨rfl, hw1⟩
          rw [HQ.out]
          have hb1 : Below W.heap.size W w1 := by rw [← hw1]; go_grown
          have H1 := Lib.hid (And.intro (HS.out.1.below hb1) (Below.step HS.out.2 hb1))
          clear y0 y1 y2 y3 hb1 hw1
          have y0 := H1.out.1.cell 0 _ rfl
          have y1 := H1.out.1.cell 1 _ rfl
          have y2 := H1.out.1.cell 2 _ rfl
          have y3 := H1.out.1.cell 3 _ rfl
          go_wp2_with fail
          refine (has_nl l _).mono ?_
          rintro e2 w2 ⟨rfl, rfl⟩
          rw [HM.out]
          go_wp2_with fail
          go_ret
          exact ⟨by rw [HT.out]; first | done | rfl, H1.out.2⟩
        · have HM := Lib.hid hm
          have hb := Bl.new w [.int .i64 1, .int .i64 a, .int .i64 n, .string (Bs l)] 40
          have hg : Below w.heap.size w (w.alloc (.cells (List.toArray [.int .i64 1, .int .i64 a, .int .i64 n, .string (Bs l)]) 40)) := by go_grown
          obtain ⟨W, hW⟩ : ∃ W, W = w.alloc (.cells (List.toArray [.int .i64 1, .int .i64 a, .int .i64 n, .string (Bs l)]) 40) := ⟨_, rfl⟩
          obtain ⟨EB, hEB⟩ : ∃ EB, EB = w.heap.size := ⟨_, rfl⟩
          rw [← hW] at hb hg
          rw [← hEB] at hb
          have HS := Lib.hid (And.intro hb hg)
          have HW := Lib.hid hW
          have HEB := Lib.hid hEB
          clear hb hg hW hEB
          have HT : Hid (tellM ⟨1, a, n, l⟩ = false) := Lib.hid (by unfold tellM; dsimp only; rw [hsm, if_pos rfl, decide_eq_true hn, decide_eq_false (show ¬ (10 : UInt8) ∉ l from fun h => h (of_decide_eq_true hm))]; rfl)
          clear hsm hm hn
          go_enter Tryz.func26, Tryz.ntmps26
          go_upto_region 1 with fail
          rw [← HW.out, ← HEB.out]
          have y0 := HS.out.1.cell 0 _ rfl
          have y1 := HS.out.1.cell 1 _ rfl
          have y2 := HS.out.1.cell 2 _ rfl
          have y3 := HS.out.1.cell 3 _ rfl
          go_wp2_with fail
          refine (small_is a n _ _ (Bl.new _ [.int .i64 a, .int .i64 n] _)).mono ?_
          rintro e1 w1 ⟨rfl, hw1⟩
          rw [HQ.out]
          have hb1 : Below W.heap.size W w1 := by rw [← hw1]; go_grown
          have H1 := Lib.hid (And.intro (HS.out.1.below hb1) (Below.step HS.out.2 hb1))
          clear y0 y1 y2 y3 hb1 hw1
          have y0 := H1.out.1.cell 0 _ rfl
          have y1 := H1.out.1.cell 1 _ rfl
          have y2 := H1.out.1.cell 2 _ rfl
          have y3 := H1.out.1.cell 3 _ rfl
          go_wp2_with fail
          refine (has_nl l _).mono ?_
          rintro e2 w2 ⟨rfl, rfl⟩
          rw [HM.out]
          go_wp2_with fail
          go_ret
          exact ⟨by rw [HT.out]; first | done | rfl, H1.out.2⟩
      · have q : (n == 0) = false := beq_eq_false_iff_ne.2 hn
        have hb := Bl.new w [.int .i64 1, .int .i64 a, .int .i64 n, .string (Bs l)] 40
        have hg : Below w.heap.size w (w.alloc (.cells (List.toArray [.int .i64 1, .int .i64 a, .int .i64 n, .string (Bs l)]) 40)) := by go_grown
        obtain ⟨W, hW⟩ : ∃ W, W = w.alloc (.cells (List.toArray [.int .i64 1, .int .i64 a, .int .i64 n, .string (Bs l)]) 40) := ⟨_, rfl⟩
        obtain ⟨EB, hEB⟩ : ∃ EB, EB = w.heap.size := ⟨_, rfl⟩
        rw [← hW] at hb hg
        rw [← hEB] at hb
        have HS := Lib.hid (And.intro hb hg)
        have HW := Lib.hid hW
        have HEB := Lib.hid hEB
        clear hb hg hW hEB
        have HT : Hid (tellM ⟨1, a, n, l⟩ = false) := Lib.hid (by unfold tellM; dsimp only; rw [hsm, if_pos rfl, decide_eq_false hn]; rfl)
        clear hsm hn
        go_enter Tryz.func26, Tryz.ntmps26
        go_upto_region 1 with fail
        rw [← HW.out, ← HEB.out]
        have y0 := HS.out.1.cell 0 _ rfl
        have y1 := HS.out.1.cell 1 _ rfl
        have y2 := HS.out.1.cell 2 _ rfl
        have y3 := HS.out.1.cell 3 _ rfl
        go_wp2_with fail
        refine (small_is a n _ _ (Bl.new _ [.int .i64 a, .int .i64 n] _)).mono ?_
        rintro e1 w1 ⟨rfl, hw1⟩
        rw [HQ.out]
        have hb1 : Below W.heap.size W w1 := by rw [← hw1]; go_grown
        have H1 := Lib.hid (And.intro (HS.out.1.below hb1) (Below.step HS.out.2 hb1))
        clear y0 y1 y2 y3 hb1 hw1
        have y0 := H1.out.1.cell 0 _ rfl
        have y1 := H1.out.1.cell 1 _ rfl
        have y2 := H1.out.1.cell 2 _ rfl
        have y3 := H1.out.1.cell 3 _ rfl
        go_wp2_with fail
        go_ret
        exact ⟨by rw [HT.out]; first | done | rfl, H1.out.2⟩
    · have p1 : (k == 1) = false := beq_eq_false_iff_ne.2 k1
      by_cases k2 : k = 2
      · subst k2
        by_cases hl : l = []
        · have e0 : ((Bs l).toList == []) = true := by rw [eq_lit, hl]; rfl
          by_cases hn : a = 0
          · have q : (a == 0) = true := by rw [hn]; rfl
            have hb := Bl.new w [.int .i64 2, .int .i64 a, .int .i64 n, .string (Bs l)] 40
            have hg : Below w.heap.size w (w.alloc (.cells (List.toArray [.int .i64 2, .int .i64 a, .int .i64 n, .string (Bs l)]) 40)) := by go_grown
            obtain ⟨W, hW⟩ : ∃ W, W = w.alloc (.cells (List.toArray [.int .i64 2, .int .i64 a, .int .i64 n, .string (Bs l)]) 40) := ⟨_, rfl⟩
            obtain ⟨EB, hEB⟩ : ∃ EB, EB = w.heap.size := ⟨_, rfl⟩
            rw [← hW] at hb hg
            rw [← hEB] at hb
            have HS := Lib.hid (And.intro hb hg)
            have HW := Lib.hid hW
            have HEB := Lib.hid hEB
            clear hb hg hW hEB
            have HT : Hid (tellM ⟨2, a, n, l⟩ = true) := Lib.hid (by unfold tellM; dsimp only; rw [hsm]; rw [if_neg (by decide)]; rw [if_pos rfl, decide_eq_true hl, decide_eq_true hn]; rfl)
            clear hsm hn hl
            go_enter Tryz.func26, Tryz.ntmps26
            go_upto_region 1 with fail
            rw [← HW.out, ← HEB.out]
            have y0 := HS.out.1.cell 0 _ rfl
            have y1 := HS.out.1.cell 1 _ rfl
            have y2 := HS.out.1.cell 2 _ rfl
            have y3 := HS.out.1.cell 3 _ rfl
            go_wp2_with fail
            refine (small_is a n _ _ (Bl.new _ [.int .i64 a, .int .i64 n] _)).mono ?_
            rintro e1 w1 ⟨rfl, hw1⟩
            rw [HQ.out]
            have hb1 : Below W.heap.size W w1 := by rw [← hw1]; go_grown
            have H1 := Lib.hid (And.intro (HS.out.1.below hb1) (Below.step HS.out.2 hb1))
            clear y0 y1 y2 y3 hb1 hw1
            have y0 := H1.out.1.cell 0 _ rfl
            have y1 := H1.out.1.cell 1 _ rfl
            have y2 := H1.out.1.cell 2 _ rfl
            have y3 := H1.out.1.cell 3 _ rfl
            go_wp2_with fail
            go_ret
            exact ⟨by rw [HT.out]; first | done | rfl, H1.out.2⟩
          · have q : (a == 0) = false := beq_eq_false_iff_ne.2 hn
            have hb := Bl.new w [.int .i64 2, .int .i64 a, .int .i64 n, .string (Bs l)] 40
            have hg : Below w.heap.size w (w.alloc (.cells (List.toArray [.int .i64 2, .int .i64 a, .int .i64 n, .string (Bs l)]) 40)) := by go_grown
            obtain ⟨W, hW⟩ : ∃ W, W = w.alloc (.cells (List.toArray [.int .i64 2, .int .i64 a, .int .i64 n, .string (Bs l)]) 40) := ⟨_, rfl⟩
            obtain ⟨EB, hEB⟩ : ∃ EB, EB = w.heap.size := ⟨_, rfl⟩
            rw [← hW] at hb hg
            rw [← hEB] at hb
            have HS := Lib.hid (And.intro hb hg)
            have HW := Lib.hid hW
            have HEB := Lib.hid hEB
            clear hb hg hW hEB
            have HT : Hid (tellM ⟨2, a, n, l⟩ = false) := Lib.hid (by unfold tellM; dsimp only; rw [hsm]; rw [if_neg (by decide)]; rw [if_pos rfl, decide_eq_true hl, decide_eq_false hn]; rfl)
            clear hsm hn hl
            go_enter Tryz.func26, Tryz.ntmps26
            go_upto_region 1 with fail
            rw [← HW.out, ← HEB.out]
            have y0 := HS.out.1.cell 0 _ rfl
            have y1 := HS.out.1.cell 1 _ rfl
            have y2 := HS.out.1.cell 2 _ rfl
            have y3 := HS.out.1.cell 3 _ rfl
            go_wp2_with fail
            refine (small_is a n _ _ (Bl.new _ [.int .i64 a, .int .i64 n] _)).mono ?_
            rintro e1 w1 ⟨rfl, hw1⟩
            rw [HQ.out]
            have hb1 : Below W.heap.size W w1 := by rw [← hw1]; go_grown
            have H1 := Lib.hid (And.intro (HS.out.1.below hb1) (Below.step HS.out.2 hb1))
            clear y0 y1 y2 y3 hb1 hw1
            have y0 := H1.out.1.cell 0 _ rfl
            have y1 := H1.out.1.cell 1 _ rfl
            have y2 := H1.out.1.cell 2 _ rfl
            have y3 := H1.out.1.cell 3 _ rfl
            go_wp2_with fail
            go_ret
            exact ⟨by rw [HT.out]; first | done | rfl, H1.out.2⟩
        · have e0 : ((Bs l).toList == []) = false := by rw [eq_lit]; exact nil_eq hl
          have hb := Bl.new w [.int .i64 2, .int .i64 a, .int .i64 n, .string (Bs l)] 40
          have hg : Below w.heap.size w (w.alloc (.cells (List.toArray [.int .i64 2, .int .i64 a, .int .i64 n, .string (Bs l)]) 40)) := by go_grown
          obtain ⟨W, hW⟩ : ∃ W, W = w.alloc (.cells (List.toArray [.int .i64 2, .int .i64 a, .int .i64 n, .string (Bs l)]) 40) := ⟨_, rfl⟩
          obtain ⟨EB, hEB⟩ : ∃ EB, EB = w.heap.size := ⟨_, rfl⟩
          rw [← hW] at hb hg
          rw [← hEB] at hb
          have HS := Lib.hid (And.intro hb hg)
          have HW := Lib.hid hW
          have HEB := Lib.hid hEB
          clear hb hg hW hEB
          have HT : Hid (tellM ⟨2, a, n, l⟩ = false) := Lib.hid (by unfold tellM; dsimp only; rw [hsm]; rw [if_neg (by decide)]; rw [if_pos rfl, decide_eq_false hl]; rfl)
          clear hsm hl
          go_enter Tryz.func26, Tryz.ntmps26
          go_upto_region 1 with fail
          rw [← HW.out, ← HEB.out]
          have y0 := HS.out.1.cell 0 _ rfl
          have y1 := HS.out.1.cell 1 _ rfl
          have y2 := HS.out.1.cell 2 _ rfl
          have y3 := HS.out.1.cell 3 _ rfl
          go_wp2_with fail
          refine (small_is a n _ _ (Bl.new _ [.int .i64 a, .int .i64 n] _)).mono ?_
          rintro e1 w1 ⟨rfl, hw1⟩
          rw [HQ.out]
          have hb1 : Below W.heap.size W w1 := by rw [← hw1]; go_grown
          have H1 := Lib.hid (And.intro (HS.out.1.below hb1) (Below.step HS.out.2 hb1))
          clear y0 y1 y2 y3 hb1 hw1
          have y0 := H1.out.1.cell 0 _ rfl
          have y1 := H1.out.1.cell 1 _ rfl
          have y2 := H1.out.1.cell 2 _ rfl
          have y3 := H1.out.1.cell 3 _ rfl
          go_wp2_with fail
          go_ret
          exact ⟨by rw [HT.out]; first | done | rfl, H1.out.2⟩
      · have p2 : (k == 2) = false := beq_eq_false_iff_ne.2 k2
        by_cases k3 : k = 3
        · subst k3
          by_cases hl : l = []
          · have e0 : ((Bs l).toList == []) = true := by rw [eq_lit, hl]; rfl
            by_cases hn : n = 0
            · have q : (n == 0) = true := by rw [hn]; rfl
              have hb := Bl.new w [.int .i64 3, .int .i64 a, .int .i64 n, .string (Bs l)] 40
              have hg : Below w.heap.size w (w.alloc (.cells (List.toArray [.int .i64 3, .int .i64 a, .int .i64 n, .string (Bs l)]) 40)) := by go_grown
              obtain ⟨W, hW⟩ : ∃ W, W = w.alloc (.cells (List.toArray [.int .i64 3, .int .i64 a, .int .i64 n, .string (Bs l)]) 40) := ⟨_, rfl⟩
              obtain ⟨EB, hEB⟩ : ∃ EB, EB = w.heap.size := ⟨_, rfl⟩
              rw [← hW] at hb hg
              rw [← hEB] at hb
              have HS := Lib.hid (And.intro hb hg)
              have HW := Lib.hid hW
              have HEB := Lib.hid hEB
              clear hb hg hW hEB
              have HT : Hid (tellM ⟨3, a, n, l⟩ = true) := Lib.hid (by unfold tellM; dsimp only; rw [hsm]; rw [if_neg (by decide)]; rw [if_neg (by decide)]; rw [if_pos rfl, decide_eq_true hl, decide_eq_true hn]; rfl)
              clear hsm hn hl
              go_enter Tryz.func26, Tryz.ntmps26
              go_upto_region 1 with fail
              rw [← HW.out, ← HEB.out]
              have y0 := HS.out.1.cell 0 _ rfl
              have y1 := HS.out.1.cell 1 _ rfl
              have y2 := HS.out.1.cell 2 _ rfl
              have y3 := HS.out.1.cell 3 _ rfl
              go_wp2_with fail
              refine (small_is a n _ _ (Bl.new _ [.int .i64 a, .int .i64 n] _)).mono ?_
              rintro e1 w1 ⟨rfl, hw1⟩
              rw [HQ.out]
              have hb1 : Below W.heap.size W w1 := by rw [← hw1]; go_grown
              have H1 := Lib.hid (And.intro (HS.out.1.below hb1) (Below.step HS.out.2 hb1))
              clear y0 y1 y2 y3 hb1 hw1
              have y0 := H1.out.1.cell 0 _ rfl
              have y1 := H1.out.1.cell 1 _ rfl
              have y2 := H1.out.1.cell 2 _ rfl
              have y3 := H1.out.1.cell 3 _ rfl
              go_wp2_with fail
              go_ret
              exact ⟨by rw [HT.out]; first | done | rfl, H1.out.2⟩
            · have q : (n == 0) = false := beq_eq_false_iff_ne.2 hn
              have hb := Bl.new w [.int .i64 3, .int .i64 a, .int .i64 n, .string (Bs l)] 40
              have hg : Below w.heap.size w (w.alloc (.cells (List.toArray [.int .i64 3, .int .i64 a, .int .i64 n, .string (Bs l)]) 40)) := by go_grown
              obtain ⟨W, hW⟩ : ∃ W, W = w.alloc (.cells (List.toArray [.int .i64 3, .int .i64 a, .int .i64 n, .string (Bs l)]) 40) := ⟨_, rfl⟩
              obtain ⟨EB, hEB⟩ : ∃ EB, EB = w.heap.size := ⟨_, rfl⟩
              rw [← hW] at hb hg
              rw [← hEB] at hb
              have HS := Lib.hid (And.intro hb hg)
              have HW := Lib.hid hW
              have HEB := Lib.hid hEB
              clear hb hg hW hEB
              have HT : Hid (tellM ⟨3, a, n, l⟩ = false) := Lib.hid (by unfold tellM; dsimp only; rw [hsm]; rw [if_neg (by decide)]; rw [if_neg (by decide)]; rw [if_pos rfl, decide_eq_true hl, decide_eq_false hn]; rfl)
              clear hsm hn hl
              go_enter Tryz.func26, Tryz.ntmps26
              go_upto_region 1 with fail
              rw [← HW.out, ← HEB.out]
              have y0 := HS.out.1.cell 0 _ rfl
              have y1 := HS.out.1.cell 1 _ rfl
              have y2 := HS.out.1.cell 2 _ rfl
              have y3 := HS.out.1.cell 3 _ rfl
              go_wp2_with fail
              refine (small_is a n _ _ (Bl.new _ [.int .i64 a, .int .i64 n] _)).mono ?_
              rintro e1 w1 ⟨rfl, hw1⟩
              rw [HQ.out]
              have hb1 : Below W.heap.size W w1 := by rw [← hw1]; go_grown
              have H1 := Lib.hid (And.intro (HS.out.1.below hb1) (Below.step HS.out.2 hb1))
              clear y0 y1 y2 y3 hb1 hw1
              have y0 := H1.out.1.cell 0 _ rfl
              have y1 := H1.out.1.cell 1 _ rfl
              have y2 := H1.out.1.cell 2 _ rfl
              have y3 := H1.out.1.cell 3 _ rfl
              go_wp2_with fail
              go_ret
              exact ⟨by rw [HT.out]; first | done | rfl, H1.out.2⟩
          · have e0 : ((Bs l).toList == []) = false := by rw [eq_lit]; exact nil_eq hl
            have hb := Bl.new w [.int .i64 3, .int .i64 a, .int .i64 n, .string (Bs l)] 40
            have hg : Below w.heap.size w (w.alloc (.cells (List.toArray [.int .i64 3, .int .i64 a, .int .i64 n, .string (Bs l)]) 40)) := by go_grown
            obtain ⟨W, hW⟩ : ∃ W, W = w.alloc (.cells (List.toArray [.int .i64 3, .int .i64 a, .int .i64 n, .string (Bs l)]) 40) := ⟨_, rfl⟩
            obtain ⟨EB, hEB⟩ : ∃ EB, EB = w.heap.size := ⟨_, rfl⟩
            rw [← hW] at hb hg
            rw [← hEB] at hb
            have HS := Lib.hid (And.intro hb hg)
            have HW := Lib.hid hW
            have HEB := Lib.hid hEB
            clear hb hg hW hEB
            have HT : Hid (tellM ⟨3, a, n, l⟩ = false) := Lib.hid (by unfold tellM; dsimp only; rw [hsm]; rw [if_neg (by decide)]; rw [if_neg (by decide)]; rw [if_pos rfl, decide_eq_false hl]; rfl)
            clear hsm hl
            go_enter Tryz.func26, Tryz.ntmps26
            go_upto_region 1 with fail
            rw [← HW.out, ← HEB.out]
            have y0 := HS.out.1.cell 0 _ rfl
            have y1 := HS.out.1.cell 1 _ rfl
            have y2 := HS.out.1.cell 2 _ rfl
            have y3 := HS.out.1.cell 3 _ rfl
            go_wp2_with fail
            refine (small_is a n _ _ (Bl.new _ [.int .i64 a, .int .i64 n] _)).mono ?_
            rintro e1 w1 ⟨rfl, hw1⟩
            rw [HQ.out]
            have hb1 : Below W.heap.size W w1 := by rw [← hw1]; go_grown
            have H1 := Lib.hid (And.intro (HS.out.1.below hb1) (Below.step HS.out.2 hb1))
            clear y0 y1 y2 y3 hb1 hw1
            have y0 := H1.out.1.cell 0 _ rfl
            have y1 := H1.out.1.cell 1 _ rfl
            have y2 := H1.out.1.cell 2 _ rfl
            have y3 := H1.out.1.cell 3 _ rfl
            go_wp2_with fail
            go_ret
            exact ⟨by rw [HT.out]; first | done | rfl, H1.out.2⟩
        · have p3 : (k == 3) = false := beq_eq_false_iff_ne.2 k3
          by_cases k4 : k = 4
          · subst k4
            by_cases hl : l = []
            · have e0 : ((Bs l).toList == []) = true := by rw [eq_lit, hl]; rfl
              have hb := Bl.new w [.int .i64 4, .int .i64 a, .int .i64 n, .string (Bs l)] 40
              have hg : Below w.heap.size w (w.alloc (.cells (List.toArray [.int .i64 4, .int .i64 a, .int .i64 n, .string (Bs l)]) 40)) := by go_grown
              obtain ⟨W, hW⟩ : ∃ W, W = w.alloc (.cells (List.toArray [.int .i64 4, .int .i64 a, .int .i64 n, .string (Bs l)]) 40) := ⟨_, rfl⟩
              obtain ⟨EB, hEB⟩ : ∃ EB, EB = w.heap.size := ⟨_, rfl⟩
              rw [← hW] at hb hg
              rw [← hEB] at hb
              have HS := Lib.hid (And.intro hb hg)
              have HW := Lib.hid hW
              have HEB := Lib.hid hEB
              clear hb hg hW hEB
              have HT : Hid (tellM ⟨4, a, n, l⟩ = true) := Lib.hid (by unfold tellM; dsimp only; rw [hsm]; rw [if_neg (by decide)]; rw [if_neg (by decide)]; rw [if_neg (by decide)]; rw [if_pos rfl, decide_eq_true hl]; rfl)
              clear hsm hl
              go_enter Tryz.func26, Tryz.ntmps26
              go_upto_region 1 with fail
              rw [← HW.out, ← HEB.out]
              have y0 := HS.out.1.cell 0 _ rfl
              have y1 := HS.out.1.cell 1 _ rfl
              have y2 := HS.out.1.cell 2 _ rfl
              have y3 := HS.out.1.cell 3 _ rfl
              go_wp2_with fail
              refine (small_is a n _ _ (Bl.new _ [.int .i64 a, .int .i64 n] _)).mono ?_
              rintro e1 w1 ⟨rfl, hw1⟩
              rw [HQ.out]
              have hb1 : Below W.heap.size W w1 := by rw [← hw1]; go_grown
              have H1 := Lib.hid (And.intro (HS.out.1.below hb1) (Below.step HS.out.2 hb1))
              clear y0 y1 y2 y3 hb1 hw1
              have y0 := H1.out.1.cell 0 _ rfl
              have y1 := H1.out.1.cell 1 _ rfl
              have y2 := H1.out.1.cell 2 _ rfl
              have y3 := H1.out.1.cell 3 _ rfl
              go_wp2_with fail
              go_ret
              exact ⟨by rw [HT.out]; first | done | rfl, H1.out.2⟩
            · have e0 : ((Bs l).toList == []) = false := by rw [eq_lit]; exact nil_eq hl
              have hb := Bl.new w [.int .i64 4, .int .i64 a, .int .i64 n, .string (Bs l)] 40
              have hg : Below w.heap.size w (w.alloc (.cells (List.toArray [.int .i64 4, .int .i64 a, .int .i64 n, .string (Bs l)]) 40)) := by go_grown
              obtain ⟨W, hW⟩ : ∃ W, W = w.alloc (.cells (List.toArray [.int .i64 4, .int .i64 a, .int .i64 n, .string (Bs l)]) 40) := ⟨_, rfl⟩
              obtain ⟨EB, hEB⟩ : ∃ EB, EB = w.heap.size := ⟨_, rfl⟩
              rw [← hW] at hb hg
              rw [← hEB] at hb
              have HS := Lib.hid (And.intro hb hg)
              have HW := Lib.hid hW
              have HEB := Lib.hid hEB
              clear hb hg hW hEB
              have HT : Hid (tellM ⟨4, a, n, l⟩ = false) := Lib.hid (by unfold tellM; dsimp only; rw [hsm]; rw [if_neg (by decide)]; rw [if_neg (by decide)]; rw [if_neg (by decide)]; rw [if_pos rfl, decide_eq_false hl]; rfl)
              clear hsm hl
              go_enter Tryz.func26, Tryz.ntmps26
              go_upto_region 1 with fail
              rw [← HW.out, ← HEB.out]
              have y0 := HS.out.1.cell 0 _ rfl
              have y1 := HS.out.1.cell 1 _ rfl
              have y2 := HS.out.1.cell 2 _ rfl
              have y3 := HS.out.1.cell 3 _ rfl
              go_wp2_with fail
              refine (small_is a n _ _ (Bl.new _ [.int .i64 a, .int .i64 n] _)).mono ?_
              rintro e1 w1 ⟨rfl, hw1⟩
              rw [HQ.out]
              have hb1 : Below W.heap.size W w1 := by rw [← hw1]; go_grown
              have H1 := Lib.hid (And.intro (HS.out.1.below hb1) (Below.step HS.out.2 hb1))
              clear y0 y1 y2 y3 hb1 hw1
              have y0 := H1.out.1.cell 0 _ rfl
              have y1 := H1.out.1.cell 1 _ rfl
              have y2 := H1.out.1.cell 2 _ rfl
              have y3 := H1.out.1.cell 3 _ rfl
              go_wp2_with fail
              go_ret
              exact ⟨by rw [HT.out]; first | done | rfl, H1.out.2⟩
          · have p4 : (k == 4) = false := beq_eq_false_iff_ne.2 k4
            have hb := Bl.new w [.int .i64 k, .int .i64 a, .int .i64 n, .string (Bs l)] 40
            have hg : Below w.heap.size w (w.alloc (.cells (List.toArray [.int .i64 k, .int .i64 a, .int .i64 n, .string (Bs l)]) 40)) := by go_grown
            obtain ⟨W, hW⟩ : ∃ W, W = w.alloc (.cells (List.toArray [.int .i64 k, .int .i64 a, .int .i64 n, .string (Bs l)]) 40) := ⟨_, rfl⟩
            obtain ⟨EB, hEB⟩ : ∃ EB, EB = w.heap.size := ⟨_, rfl⟩
            rw [← hW] at hb hg
            rw [← hEB] at hb
            have HS := Lib.hid (And.intro hb hg)
            have HW := Lib.hid hW
            have HEB := Lib.hid hEB
            clear hb hg hW hEB
            have HT : Hid (tellM ⟨k, a, n, l⟩ = false) := Lib.hid (by unfold tellM; dsimp only; rw [hsm, if_neg k1, if_neg k2, if_neg k3, if_neg k4]; rfl)
            clear hsm k1 k2 k3 k4
            go_enter Tryz.func26, Tryz.ntmps26
            go_upto_region 1 with fail
            rw [← HW.out, ← HEB.out]
            have y0 := HS.out.1.cell 0 _ rfl
            have y1 := HS.out.1.cell 1 _ rfl
            have y2 := HS.out.1.cell 2 _ rfl
            have y3 := HS.out.1.cell 3 _ rfl
            go_wp2_with fail
            refine (small_is a n _ _ (Bl.new _ [.int .i64 a, .int .i64 n] _)).mono ?_
            rintro e1 w1 ⟨rfl, hw1⟩
            rw [HQ.out]
            have hb1 : Below W.heap.size W w1 := by rw [← hw1]; go_grown
            have H1 := Lib.hid (And.intro (HS.out.1.below hb1) (Below.step HS.out.2 hb1))
            clear y0 y1 y2 y3 hb1 hw1
            have y0 := H1.out.1.cell 0 _ rfl
            have y1 := H1.out.1.cell 1 _ rfl
            have y2 := H1.out.1.cell 2 _ rfl
            have y3 := H1.out.1.cell 3 _ rfl
            go_wp2_with fail
            go_ret
            exact ⟨by rw [HT.out]; first | done | rfl, H1.out.2⟩

end Go.Proofs.YtafnipgeeampjaaGreatDoor

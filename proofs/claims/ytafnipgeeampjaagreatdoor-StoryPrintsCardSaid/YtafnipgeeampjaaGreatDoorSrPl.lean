/-
  The document's line of an event.
-/
import Derived.Test.YtafnipgeeampjaaGreatDoorRows
import Derived.Test.YtafnipgeeampjaaGreatDoorKit
import Derived.Test.YtafnipgeeampjaaGreatDoorApp
import Derived.Test.YtafnipgeeampjaaGreatDoorQuiet
import Derived.WalkKit
import Derived.ProofKit
import Derived.OpenShut
import Derived.ShutString
import Derived.Below
import Derived.Outline
import Derived.WalkLawsBesides
import Derived.WalkSpells
import Derived.Handy
import Derived.Deep.QuietTactic
import Derived.BigQuiet
import Derived.RegionTactic
import Derived.ChangeAlike
import Derived.Lib.Hide
import Derived.Laws.Rows
import Derived.Laws.Tables
import Derived.Laws.CopyOwn
import Derived.Laws.MakeOwn
import Derived.Laws.Entries
import Derived.Laws.OwnMore
import Derived.Deep.WholeRow
import Derived.Deep.LoopGhost
import Derived.Deep.AppendLies
import Derived.Deep.Draws
import Derived.Maps.AppendAt
import Derived.OwnWalk
import Derived.Deep.RegionHeld3
import Derived.Deep.Cut
import Derived.Deep.CutRange
import Derived.Deep.DeepCutAuto
import Derived.Deep.CutBlock
import Derived.Lib.SliceRun
import Derived.IntWalk
import Derived.Laws.Strings
import Derived.Lib.Bytealg
import Derived.Lib.Strings
import Derived.Laws.Externs
import Derived.Test.YtafnipgeeampjaaGreatDoorSrPa
import Derived.Test.YtafnipgeeampjaaGreatDoorSrPx
import Derived.Test.YtafnipgeeampjaaGreatDoorSrDc
namespace Go.Proofs.YtafnipgeeampjaaGreatDoor
open Go.ChangeShapes Go.WideShapes Go.ChangeAt Go.RowKit
theorem itl_dcI2 (x : Int) : itl x = dcI x := by
  unfold itl dcI
  by_cases h : x < 0
  · rw [if_pos h, if_pos h]
  · rw [if_neg h, if_neg h]
    congr 1
    omega
theorem dec_is (x : Int) (h : -9223372036854775808 ≤ x ∧ x ≤ 9223372036854775807) (w : World) : Calls Tryz.prog 12 #[.int .i64 x] w fun e w' => e = .returned (.string (Bs (dcI x))) ∧ Below w.heap.size w w' := by
  have c := decimal_any x h.1 h.2 w
  rwa [itl_dcI2] at c
/-- What the document's line of an event is. -/
def RlP (e : Sev) (t : Nat) (w : World) (x : Ending) (w' : World) : Prop := ∃ (s : ByteArray) (b : Bool), x = .returned (.tuple #[.string s, .bool b]) ∧ tellM e = b ∧ (b = true → s = Bs (txtM e t)) ∧ Below w.heap.size w w'
theorem RlP.no {e : Sev} {t : Nat} {w w' : World} {s : ByteArray} (he : tellM e = false) (h : Below w.heap.size w w') : RlP e t w (.returned (.tuple #[.string s, .bool false])) w' := ⟨s, false, rfl, he, (fun h0 => by cases h0), h⟩
theorem RlP.yes {e : Sev} {t : Nat} {w w' : World} {s : ByteArray} (he : tellM e = true) (hs : s = Bs (txtM e t)) (h : Below w.heap.size w w') : RlP e t w (.returned (.tuple #[.string s, .bool true])) w' := ⟨s, true, rfl, he, fun _ => hs, h⟩
theorem nl_at (l : List UInt8) (h : ∀ j, j < l.length → l.getD j 0 ≠ 10) : (10 : UInt8) ∉ l := fun hm => by
  obtain ⟨j, hj, he⟩ := List.getElem_of_mem hm
  exact h j hj (by simp [List.getD, hj, he])
set_option maxRecDepth 100000 in
set_option maxHeartbeats 8000000 in
theorem rline_is (k a n : Int) (l : List UInt8) (t : Nat) (hl : l.length ≤ 5000) (h1 : 1 ≤ t) (h2 : t ≤ 10000) (w : World) : Calls Tryz.prog 29 #[.agg (List.toArray [.int .i64 k, .int .i64 a, .int .i64 n, .string (Bs l)]), .int .i64 (t : Int)] w (RlP ⟨k, a, n, l⟩ t w) := by
  have hb := Bl.new w [.int .i64 k, .int .i64 a, .int .i64 n, .string (Bs l)] 39
  have hg : Below w.heap.size w (w.alloc (.cells (List.toArray [.int .i64 k, .int .i64 a, .int .i64 n, .string (Bs l)]) 39)) := by go_grown
  obtain ⟨W, hW⟩ : ∃ W, W = w.alloc (.cells (List.toArray [.int .i64 k, .int .i64 a, .int .i64 n, .string (Bs l)]) 39) := ⟨_, rfl⟩
  obtain ⟨EB, hEB⟩ : ∃ EB, EB = w.heap.size := ⟨_, rfl⟩
  rw [← hW] at hb hg
  rw [← hEB] at hb
  have HS := Lib.hid (And.intro hb hg)
  have HW := Lib.hid hW
  have HEB := Lib.hid hEB
  have HL := Lib.hid hl
  have HT0 := Lib.hid (And.intro h1 h2)
  obtain ⟨W1, hW1⟩ : ∃ W1, W1 = W.alloc (.cells #[.int .i64 a, .int .i64 n] 3) := ⟨_, rfl⟩
  have hb1 : Below W.heap.size W W1 := by rw [hW1]; go_grown
  have hn1 : Bl W.heap.size [.int .i64 a, .int .i64 n] W1 := by rw [hW1]; exact Bl.new _ _ _
  obtain ⟨zs, hzs⟩ : ∃ zs, zs = [a, n] := ⟨_, rfl⟩
  have hz : ∀ (j : Nat) (x : Int), zs[j]? = some x → W1.cell? ⟨W.heap.size, j, none⟩ = some (.int .i64 x) := by
    intro j x hx
    refine hn1.cell j _ ?_
    rw [hzs] at hx
    rcases j with _ | _ | j
    · simp at hx; subst hx; rfl
    · simp at hx; subst hx; rfl
    · simp at hx
  have HZ := Lib.hid hz
  have HZL : Hid (zs.length = 2) := Lib.hid (by rw [hzs]; rfl)
  have HE : Hid ((small a && small n) = zs.all small) := Lib.hid (by rw [hzs]; simp)
  have H1 := Lib.hid (And.intro (HS.out.1.below hb1) (Below.step HS.out.2 hb1))
  have HW1 := Lib.hid hW1
  clear hb hg hW hEB hl h1 h2 hW1 hb1 hn1 hzs hz
  go_enter Tryz.func29, Tryz.ntmps29
  go_upto_region 1 with fail
  rw [← HW.out, ← HEB.out]
  have y0 := HS.out.1.cell 0 _ rfl
  have y1 := HS.out.1.cell 1 _ rfl
  have y2 := HS.out.1.cell 2 _ rfl
  have y3 := HS.out.1.cell 3 _ rfl
  go_wp2_with fail
  rw [← HW1.out]
  clear y0 y1 y2 y3
  go_loopw [17] (fun vk wr => ∃ (k : Nat), k ≤ 2 ∧ vk = .int .i64 (k : Int) ∧ Hid ((zs.take k).all small = true) ∧ W1 = wr) (fun vk _ => 3 - (intOf vk).toNat)
  case atStart => exact ⟨0, by omega, rfl, Lib.hid rfl, rfl⟩
  case round =>
    obtain ⟨j, hj, rfl, hsm, rfl⟩ := hrel
    have j0 : (0 : Int) ≤ (j : Int) := by omega
    by_cases hjn : j < 2
    · obtain ⟨x, hx⟩ : ∃ x, zs[j]? = some x := ⟨_, List.getElem?_eq_getElem (by rw [HZL.out]; exact hjn)⟩
      have c0 := HZ.out j x hx
      have q1 : (j : Int) < 2 := by omega
      have HX := Lib.hid (And.intro hx hjn)
      clear hx hjn hj
      by_cases h1 : x < -9999999
      · have HT : Hid (tellM ⟨k, a, n, l⟩ = false) := Lib.hid (by unfold tellM; dsimp only; rw [HE.out, show zs.all small = false from List.all_eq_false.2 ⟨x, List.mem_of_getElem? HX.out.1, by unfold small; rw [decide_eq_false (show ¬ (-9999999 : Int) ≤ x by omega), Bool.false_and]; decide⟩]; rfl)
        go_wp2_with fail
        go_ret2
        exact RlP.no HT.out H1.out.2
      · by_cases h2 : 9999999 < x
        · have HT : Hid (tellM ⟨k, a, n, l⟩ = false) := Lib.hid (by unfold tellM; dsimp only; rw [HE.out, show zs.all small = false from List.all_eq_false.2 ⟨x, List.mem_of_getElem? HX.out.1, by unfold small; rw [decide_eq_false (show ¬ x ≤ 9999999 by omega), Bool.and_false]; decide⟩]; rfl)
          go_wp2_with fail
          go_ret2
          exact RlP.no HT.out H1.out.2
        · have HXS : Hid (small x = true) := Lib.hid (by unfold small; rw [decide_eq_true (show -9999999 ≤ x by omega), decide_eq_true (show x ≤ 9999999 by omega)]; rfl)
          go_wp2_with fail
          go_roundw
          case rel =>
            refine ⟨j + 1, HX.out.2, by go_num, Lib.hid ?_, by first | rfl | trivial⟩
            rw [List.take_add_one, HX.out.1, List.all_append, hsm.out]
            simp [HXS.out]
          case measure => have := HX.out.2; simp [intOf]; omega
    · have hke : j = 2 := by omega
      subst hke
      have hfin := hsm.out
      rw [List.take_of_length_le (by rw [HZL.out]; exact Nat.le_refl _), ← HE.out] at hfin
      have HQ := Lib.hid hfin
      have hr : -9999999 ≤ a ∧ a ≤ 9999999 ∧ -9999999 ≤ n ∧ n ≤ 9999999 := by
        rw [Bool.and_eq_true] at hfin
        have h3 := small_bd hfin.1
        have h4 := small_bd hfin.2
        exact ⟨h3.1, h3.2, h4.1, h4.2⟩
      have HR := Lib.hid hr
      clear hfin hj hjn hr
      have v1 : (Bs (dcI a)).size ≤ 8 := by rw [Bs_size]; exact dcI_len a ⟨HR.out.1, HR.out.2.1⟩
      have v2 : (Bs (dcI n)).size ≤ 8 := by rw [Bs_size]; exact dcI_len n ⟨HR.out.2.2.1, HR.out.2.2.2⟩
      have v3 : (Bs l).size ≤ 5000 := by rw [Bs_size]; exact HL.out
      go_wp2_with fail
      refine region_sc (by kernel_rfl) (by kernel_rfl) ?_
      iterate 1 (first | go_big_quiet_skip | (go_big_quiet_want; go_big_quiet_op; first | go_big_quiet_on | (refine ⟨_, fun _ _ => rfl, ?_⟩; go_big_quiet_on)))
      go_big_quiet_want
      refine ⟨.int .i64 a, fun wq hq => ?_, ?_⟩
      · have c0 := (H1.out.1.below hq).cell 1 _ rfl
        unfold Oper.quietAt
        simp [go_sem, c0, Oper.quietUpon]
      simp only [Act.put, List.setIfInBounds_toArray, List.set_cons_zero, List.set_cons_succ]
      go_big_quiet_on
      go_big_quiet_want
      go_big_quiet_op
      refine ⟨.string (Bs (dcI a)), fun wq hq => (dec_is a (by have := HR.out; omega) wq).mono fun _ _ ⟨h1, h2⟩ => ⟨h1, Below.step hq h2⟩, ?_⟩
      go_big_quiet_on
      iterate 1 (first | go_big_quiet_skip | (go_big_quiet_want; go_big_quiet_op; first | go_big_quiet_on | (refine ⟨_, fun _ _ => rfl, ?_⟩; go_big_quiet_on)))
      go_big_quiet_want
      refine ⟨.int .i64 n, fun wq hq => ?_, ?_⟩
      · have c0 := (H1.out.1.below hq).cell 2 _ rfl
        unfold Oper.quietAt
        simp [go_sem, c0, Oper.quietUpon]
      simp only [Act.put, List.setIfInBounds_toArray, List.set_cons_zero, List.set_cons_succ]
      go_big_quiet_on
      go_big_quiet_want
      go_big_quiet_op
      refine ⟨.string (Bs (dcI n)), fun wq hq => (dec_is n (by have := HR.out; omega) wq).mono fun _ _ ⟨h1, h2⟩ => ⟨h1, Below.step hq h2⟩, ?_⟩
      go_big_quiet_on
      iterate 2 (first | go_big_quiet_skip | (go_big_quiet_want; go_big_quiet_op; first | go_big_quiet_on | (refine ⟨_, fun _ _ => rfl, ?_⟩; go_big_quiet_on)))
      refine wpQuiet_nil ?_
      intro w4 hS4
      have H4 := Lib.hid (And.intro (H1.out.1.below hS4) (Below.step H1.out.2 hS4))
      clear hS4
      by_cases k1 : k = 1
      · subst k1
        have y0 := H4.out.1.cell 0 _ rfl
        have y1 := H4.out.1.cell 1 _ rfl
        have y2 := H4.out.1.cell 2 _ rfl
        have y3 := H4.out.1.cell 3 _ rfl
        go_wp2_with fail
        go_loopw [10] (fun vj wr => ∃ (j : Nat), j ≤ (Bs l).size ∧ vj = .int .i64 (j : Int) ∧ Hid (∀ i, i < j → l.getD i 0 ≠ 10) ∧ w4 = wr) (fun vj _ => (Bs l).size + 1 - (intOf vj).toNat)
        case atStart => exact ⟨0, Nat.zero_le _, rfl, Lib.hid (fun i h => absurd h (by omega)), rfl⟩
        case round =>
          obtain ⟨j, hj, rfl, hno, rfl⟩ := hrel
          have j0 : (0 : Int) ≤ (j : Int) := by omega
          by_cases hjn : j < (Bs l).size
          · have p1 : (j : Int) < ((Bs l).size : Int) := by omega
            have hlj : j < l.length := by rw [Bs_size] at hjn; exact hjn
            obtain ⟨bj, hbj⟩ : ∃ bj, bj = l.getD j 0 := ⟨_, rfl⟩
            have hs0 : (Bs l)[j]'hjn = bj := by rw [get_bt (Bs l) j hjn, Bs_list, hbj]
            have HJ := Lib.hid (And.intro hjn (And.intro hbj hlj))
            by_cases hb10 : bj = 10
            · have q10 : ((bj.toNat : Int) == 10) = true := by rw [hb10]; rfl
              have HT : Hid (tellM ⟨1, a, n, l⟩ = false) := Lib.hid (by
                unfold tellM
                dsimp only
                rw [HQ.out, if_pos rfl]
                have hm : (10 : UInt8) ∈ l := by
                  rw [← hb10, hbj, show l.getD j 0 = l[j] by simp [List.getD, hlj]]
                  exact List.getElem_mem _
                rw [decide_eq_false (show ¬ (10 : UInt8) ∉ l from fun h => h hm), Bool.and_false]
                rfl)
              clear hj hbj hb10 hlj
              go_wp2_with fail
              go_ret2
              exact RlP.no HT.out H4.out.2
            · have q10 : ((bj.toNat : Int) == 10) = false := beq_eq_false_iff_ne.2 (by intro e; exact hb10 (UInt8.toNat_inj.1 (by show bj.toNat = 10; omega)))
              have HB10 := Lib.hid hb10
              clear hj hbj hb10 hlj
              go_wp2_with fail
              go_roundw
              case rel =>
                refine ⟨j + 1, HJ.out.1, by go_num, Lib.hid ?_, by first | rfl | trivial⟩
                intro i hi
                rcases Nat.lt_or_ge i j with h | h
                · exact hno.out i h
                · rw [show i = j by omega, ← HJ.out.2.1]
                  exact HB10.out
              case measure => have := HJ.out.1; simp [intOf]; omega
          · have hje : j = (Bs l).size := by omega
            have hnl : (10 : UInt8) ∉ l := nl_at l (fun i hi => hno.out i (by rw [hje, Bs_size]; exact hi))
            have HJE := Lib.hid hje
            subst hje
            clear hj hjn
            by_cases hn : n = 0
            · have HT : Hid (tellM ⟨1, a, n, l⟩ = true) := Lib.hid (by unfold tellM; dsimp only; rw [HQ.out]; rw [if_pos rfl, decide_eq_true hn, decide_eq_true hnl]; rfl)
              have q : (n == 0) = true := by rw [hn]; rfl
              clear hn hnl
              go_wp2_with fail
              refine region_sc (by kernel_rfl) (by kernel_rfl) ?_
              iterate 4 (first | go_big_quiet_skip | (go_big_quiet_want; go_big_quiet_op; first | go_big_quiet_on | (refine ⟨_, fun _ _ => rfl, ?_⟩; go_big_quiet_on)))
              go_big_quiet_want
              refine ⟨.string (Bs l), fun wq hq => ?_, ?_⟩
              · have c0 := (H4.out.1.below hq).cell 3 _ rfl
                unfold Oper.quietAt
                simp [go_sem, c0, Oper.quietUpon]
              simp only [Act.put, List.setIfInBounds_toArray, List.set_cons_zero, List.set_cons_succ]
              go_big_quiet_on
              iterate 2 (first | go_big_quiet_skip | (go_big_quiet_want; go_big_quiet_op; first | go_big_quiet_on | (refine ⟨_, fun _ _ => rfl, ?_⟩; go_big_quiet_on)))
              go_big_quiet_want
              refine ⟨.int .i64 n, fun wq hq => ?_, ?_⟩
              · have c0 := (H4.out.1.below hq).cell 2 _ rfl
                unfold Oper.quietAt
                simp [go_sem, c0, Oper.quietUpon]
              simp only [Act.put, List.setIfInBounds_toArray, List.set_cons_zero, List.set_cons_succ]
              go_big_quiet_on
              iterate 3 (first | go_big_quiet_skip | (go_big_quiet_want; go_big_quiet_op; first | go_big_quiet_on | (refine ⟨_, fun _ _ => rfl, ?_⟩; go_big_quiet_on)))
              refine wpQuiet_nil ?_
              intro w5 hS5
              have H5 := Lib.hid (Below.step H4.out.2 hS5)
              clear hS5
              go_wp2_with fail
              go_ret2
              exact RlP.yes HT.out (by rw [txt1, ← say_bs]) H5.out
            · have HT : Hid (tellM ⟨1, a, n, l⟩ = false) := Lib.hid (by unfold tellM; dsimp only; rw [HQ.out]; rw [if_pos rfl, decide_eq_false hn]; rfl)
              have q : (n == 0) = false := beq_eq_false_iff_ne.2 hn
              clear hn hnl
              go_wp2_with fail
              refine region_sc (by kernel_rfl) (by kernel_rfl) ?_
              iterate 4 (first | go_big_quiet_skip | (go_big_quiet_want; go_big_quiet_op; first | go_big_quiet_on | (refine ⟨_, fun _ _ => rfl, ?_⟩; go_big_quiet_on)))
              go_big_quiet_want
              refine ⟨.string (Bs l), fun wq hq => ?_, ?_⟩
              · have c0 := (H4.out.1.below hq).cell 3 _ rfl
                unfold Oper.quietAt
                simp [go_sem, c0, Oper.quietUpon]
              simp only [Act.put, List.setIfInBounds_toArray, List.set_cons_zero, List.set_cons_succ]
              go_big_quiet_on
              iterate 2 (first | go_big_quiet_skip | (go_big_quiet_want; go_big_quiet_op; first | go_big_quiet_on | (refine ⟨_, fun _ _ => rfl, ?_⟩; go_big_quiet_on)))
              go_big_quiet_want
              refine ⟨.int .i64 n, fun wq hq => ?_, ?_⟩
              · have c0 := (H4.out.1.below hq).cell 2 _ rfl
                unfold Oper.quietAt
                simp [go_sem, c0, Oper.quietUpon]
              simp only [Act.put, List.setIfInBounds_toArray, List.set_cons_zero, List.set_cons_succ]
              go_big_quiet_on
              iterate 3 (first | go_big_quiet_skip | (go_big_quiet_want; go_big_quiet_op; first | go_big_quiet_on | (refine ⟨_, fun _ _ => rfl, ?_⟩; go_big_quiet_on)))
              refine wpQuiet_nil ?_
              intro w5 hS5
              have H5 := Lib.hid (Below.step H4.out.2 hS5)
              clear hS5
              go_wp2_with fail
              go_ret2
              exact RlP.no HT.out H5.out
      · have p1 : (k == 1) = false := beq_eq_false_iff_ne.2 k1
        by_cases k2 : k = 2
        · subst k2
          by_cases hl : l = []
          · have e0 : ((Bs l).toList == []) = true := by rw [eq_lit, hl]; rfl
            have y0 := H4.out.1.cell 0 _ rfl
            have y1 := H4.out.1.cell 1 _ rfl
            have y2 := H4.out.1.cell 2 _ rfl
            have y3 := H4.out.1.cell 3 _ rfl
            by_cases hn : a = 0
            · have HT : Hid (tellM ⟨2, a, n, l⟩ = true) := Lib.hid (by unfold tellM; dsimp only; rw [HQ.out]; rw [if_neg (by decide)]; rw [if_pos rfl, decide_eq_true hl, decide_eq_true hn]; rfl)
              have q : (a == 0) = true := by rw [hn]; rfl
              clear hn hl
              go_wp2_with fail
              refine region_sc (by kernel_rfl) (by kernel_rfl) ?_
              iterate 3 (first | go_big_quiet_skip | (go_big_quiet_want; go_big_quiet_op; first | go_big_quiet_on | (refine ⟨_, fun _ _ => rfl, ?_⟩; go_big_quiet_on)))
              go_big_quiet_want
              refine ⟨.int .i64 a, fun wq hq => ?_, ?_⟩
              · have c0 := (H4.out.1.below hq).cell 1 _ rfl
                unfold Oper.quietAt
                simp [go_sem, c0, Oper.quietUpon]
              simp only [Act.put, List.setIfInBounds_toArray, List.set_cons_zero, List.set_cons_succ]
              go_big_quiet_on
              iterate 3 (first | go_big_quiet_skip | (go_big_quiet_want; go_big_quiet_op; first | go_big_quiet_on | (refine ⟨_, fun _ _ => rfl, ?_⟩; go_big_quiet_on)))
              refine wpQuiet_nil ?_
              intro w5 hS5
              have H5 := Lib.hid (Below.step H4.out.2 hS5)
              clear hS5
              go_wp2_with fail
              go_ret2
              exact RlP.yes HT.out (by rw [txt2, ← tick_bs]) H5.out
            · have HT : Hid (tellM ⟨2, a, n, l⟩ = false) := Lib.hid (by unfold tellM; dsimp only; rw [HQ.out]; rw [if_neg (by decide)]; rw [if_pos rfl, decide_eq_true hl, decide_eq_false hn]; rfl)
              have q : (a == 0) = false := beq_eq_false_iff_ne.2 hn
              clear hn hl
              go_wp2_with fail
              refine region_sc (by kernel_rfl) (by kernel_rfl) ?_
              iterate 3 (first | go_big_quiet_skip | (go_big_quiet_want; go_big_quiet_op; first | go_big_quiet_on | (refine ⟨_, fun _ _ => rfl, ?_⟩; go_big_quiet_on)))
              go_big_quiet_want
              refine ⟨.int .i64 a, fun wq hq => ?_, ?_⟩
              · have c0 := (H4.out.1.below hq).cell 1 _ rfl
                unfold Oper.quietAt
                simp [go_sem, c0, Oper.quietUpon]
              simp only [Act.put, List.setIfInBounds_toArray, List.set_cons_zero, List.set_cons_succ]
              go_big_quiet_on
              iterate 3 (first | go_big_quiet_skip | (go_big_quiet_want; go_big_quiet_op; first | go_big_quiet_on | (refine ⟨_, fun _ _ => rfl, ?_⟩; go_big_quiet_on)))
              refine wpQuiet_nil ?_
              intro w5 hS5
              have H5 := Lib.hid (Below.step H4.out.2 hS5)
              clear hS5
              go_wp2_with fail
              go_ret2
              exact RlP.no HT.out H5.out
          · have e0 : ((Bs l).toList == []) = false := by rw [eq_lit]; exact nil_eq hl
            have HT : Hid (tellM ⟨2, a, n, l⟩ = false) := Lib.hid (by unfold tellM; dsimp only; rw [HQ.out]; rw [if_neg (by decide)]; rw [if_pos rfl, decide_eq_false hl]; rfl)
            clear hl
            have y0 := H4.out.1.cell 0 _ rfl
            have y1 := H4.out.1.cell 1 _ rfl
            have y2 := H4.out.1.cell 2 _ rfl
            have y3 := H4.out.1.cell 3 _ rfl
            go_wp2_with fail
            go_ret2
            exact RlP.no HT.out H4.out.2
        · have p2 : (k == 2) = false := beq_eq_false_iff_ne.2 k2
          by_cases k3 : k = 3
          · subst k3
            by_cases hl : l = []
            · have e0 : ((Bs l).toList == []) = true := by rw [eq_lit, hl]; rfl
              have y0 := H4.out.1.cell 0 _ rfl
              have y1 := H4.out.1.cell 1 _ rfl
              have y2 := H4.out.1.cell 2 _ rfl
              have y3 := H4.out.1.cell 3 _ rfl
              by_cases ht : t = 1
              · subst ht
                by_cases hn : n = 0
                · have HT : Hid (tellM ⟨3, a, n, l⟩ = true) := Lib.hid (by unfold tellM; dsimp only; rw [HQ.out]; rw [if_neg (by decide)]; rw [if_neg (by decide)]; rw [if_pos rfl, decide_eq_true hl, decide_eq_true hn]; rfl)
                  have q : (n == 0) = true := by rw [hn]; rfl
                  clear hn hl
                  go_wp2_with fail
                  refine region_sc (by kernel_rfl) (by kernel_rfl) ?_
                  iterate 3 (first | go_big_quiet_skip | (go_big_quiet_want; go_big_quiet_op; first | go_big_quiet_on | (refine ⟨_, fun _ _ => rfl, ?_⟩; go_big_quiet_on)))
                  go_big_quiet_want
                  refine ⟨.int .i64 n, fun wq hq => ?_, ?_⟩
                  · have c0 := (H4.out.1.below hq).cell 2 _ rfl
                    unfold Oper.quietAt
                    simp [go_sem, c0, Oper.quietUpon]
                  simp only [Act.put, List.setIfInBounds_toArray, List.set_cons_zero, List.set_cons_succ]
                  go_big_quiet_on
                  iterate 3 (first | go_big_quiet_skip | (go_big_quiet_want; go_big_quiet_op; first | go_big_quiet_on | (refine ⟨_, fun _ _ => rfl, ?_⟩; go_big_quiet_on)))
                  refine wpQuiet_nil ?_
                  intro w5 hS5
                  have H5 := Lib.hid (Below.step H4.out.2 hS5)
                  clear hS5
                  go_wp2_with fail
                  go_ret2
                  exact RlP.yes HT.out (by rw [txt3, ← pick_bs]) H5.out
                · have HT : Hid (tellM ⟨3, a, n, l⟩ = false) := Lib.hid (by unfold tellM; dsimp only; rw [HQ.out]; rw [if_neg (by decide)]; rw [if_neg (by decide)]; rw [if_pos rfl, decide_eq_true hl, decide_eq_false hn]; rfl)
                  have q : (n == 0) = false := beq_eq_false_iff_ne.2 hn
                  clear hn hl
                  go_wp2_with fail
                  refine region_sc (by kernel_rfl) (by kernel_rfl) ?_
                  iterate 3 (first | go_big_quiet_skip | (go_big_quiet_want; go_big_quiet_op; first | go_big_quiet_on | (refine ⟨_, fun _ _ => rfl, ?_⟩; go_big_quiet_on)))
                  go_big_quiet_want
                  refine ⟨.int .i64 n, fun wq hq => ?_, ?_⟩
                  · have c0 := (H4.out.1.below hq).cell 2 _ rfl
                    unfold Oper.quietAt
                    simp [go_sem, c0, Oper.quietUpon]
                  simp only [Act.put, List.setIfInBounds_toArray, List.set_cons_zero, List.set_cons_succ]
                  go_big_quiet_on
                  iterate 3 (first | go_big_quiet_skip | (go_big_quiet_want; go_big_quiet_op; first | go_big_quiet_on | (refine ⟨_, fun _ _ => rfl, ?_⟩; go_big_quiet_on)))
                  refine wpQuiet_nil ?_
                  intro w5 hS5
                  have H5 := Lib.hid (Below.step H4.out.2 hS5)
                  clear hS5
                  go_wp2_with fail
                  go_ret2
                  exact RlP.no HT.out H5.out
              · have q9 : (1 : Int) < (t : Int) := by have := HT0.out; omega
                have HT1 := Lib.hid ht
                have v4 : (Bs (dcI (t : Int))).size ≤ 8 := by rw [Bs_size]; exact dcI_len _ (by have := HT0.out; omega)
                clear ht
                by_cases hn : n = 0
                · have HT : Hid (tellM ⟨3, a, n, l⟩ = true) := Lib.hid (by unfold tellM; dsimp only; rw [HQ.out]; rw [if_neg (by decide)]; rw [if_neg (by decide)]; rw [if_pos rfl, decide_eq_true hl, decide_eq_true hn]; rfl)
                  have q : (n == 0) = true := by rw [hn]; rfl
                  clear hn hl
                  go_wp2_with fail
                  refine region_sc (by kernel_rfl) (by kernel_rfl) ?_
                  iterate 4 (first | go_big_quiet_skip | (go_big_quiet_want; go_big_quiet_op; first | go_big_quiet_on | (refine ⟨_, fun _ _ => rfl, ?_⟩; go_big_quiet_on)))
                  go_big_quiet_want
                  go_big_quiet_op
                  refine ⟨.string (Bs (dcI (t : Int))), fun wq hq => (dec_is (t : Int) (by have := HT0.out; omega) wq).mono fun _ _ ⟨h1, h2⟩ => ⟨h1, Below.step hq h2⟩, ?_⟩
                  go_big_quiet_on
                  iterate 2 (first | go_big_quiet_skip | (go_big_quiet_want; go_big_quiet_op; first | go_big_quiet_on | (refine ⟨_, fun _ _ => rfl, ?_⟩; go_big_quiet_on)))
                  go_big_quiet_want
                  refine ⟨.int .i64 n, fun wq hq => ?_, ?_⟩
                  · have c0 := (H4.out.1.below hq).cell 2 _ rfl
                    unfold Oper.quietAt
                    simp [go_sem, c0, Oper.quietUpon]
                  simp only [Act.put, List.setIfInBounds_toArray, List.set_cons_zero, List.set_cons_succ]
                  go_big_quiet_on
                  iterate 3 (first | go_big_quiet_skip | (go_big_quiet_want; go_big_quiet_op; first | go_big_quiet_on | (refine ⟨_, fun _ _ => rfl, ?_⟩; go_big_quiet_on)))
                  refine wpQuiet_nil ?_
                  intro w5 hS5
                  have H5 := Lib.hid (Below.step H4.out.2 hS5)
                  clear hS5
                  go_wp2_with fail
                  go_ret2
                  exact RlP.yes HT.out (by rw [txt3s _ _ _ _ HT1.out, ← picks_bs]) H5.out
                · have HT : Hid (tellM ⟨3, a, n, l⟩ = false) := Lib.hid (by unfold tellM; dsimp only; rw [HQ.out]; rw [if_neg (by decide)]; rw [if_neg (by decide)]; rw [if_pos rfl, decide_eq_true hl, decide_eq_false hn]; rfl)
                  have q : (n == 0) = false := beq_eq_false_iff_ne.2 hn
                  clear hn hl
                  go_wp2_with fail
                  refine region_sc (by kernel_rfl) (by kernel_rfl) ?_
                  iterate 4 (first | go_big_quiet_skip | (go_big_quiet_want; go_big_quiet_op; first | go_big_quiet_on | (refine ⟨_, fun _ _ => rfl, ?_⟩; go_big_quiet_on)))
                  go_big_quiet_want
                  go_big_quiet_op
                  refine ⟨.string (Bs (dcI (t : Int))), fun wq hq => (dec_is (t : Int) (by have := HT0.out; omega) wq).mono fun _ _ ⟨h1, h2⟩ => ⟨h1, Below.step hq h2⟩, ?_⟩
                  go_big_quiet_on
                  iterate 2 (first | go_big_quiet_skip | (go_big_quiet_want; go_big_quiet_op; first | go_big_quiet_on | (refine ⟨_, fun _ _ => rfl, ?_⟩; go_big_quiet_on)))
                  go_big_quiet_want
                  refine ⟨.int .i64 n, fun wq hq => ?_, ?_⟩
                  · have c0 := (H4.out.1.below hq).cell 2 _ rfl
                    unfold Oper.quietAt
                    simp [go_sem, c0, Oper.quietUpon]
                  simp only [Act.put, List.setIfInBounds_toArray, List.set_cons_zero, List.set_cons_succ]
                  go_big_quiet_on
                  iterate 3 (first | go_big_quiet_skip | (go_big_quiet_want; go_big_quiet_op; first | go_big_quiet_on | (refine ⟨_, fun _ _ => rfl, ?_⟩; go_big_quiet_on)))
                  refine wpQuiet_nil ?_
                  intro w5 hS5
                  have H5 := Lib.hid (Below.step H4.out.2 hS5)
                  clear hS5
                  go_wp2_with fail
                  go_ret2
                  exact RlP.no HT.out H5.out
            · have e0 : ((Bs l).toList == []) = false := by rw [eq_lit]; exact nil_eq hl
              have HT : Hid (tellM ⟨3, a, n, l⟩ = false) := Lib.hid (by unfold tellM; dsimp only; rw [HQ.out]; rw [if_neg (by decide)]; rw [if_neg (by decide)]; rw [if_pos rfl, decide_eq_false hl]; rfl)
              clear hl
              have y0 := H4.out.1.cell 0 _ rfl
              have y1 := H4.out.1.cell 1 _ rfl
              have y2 := H4.out.1.cell 2 _ rfl
              have y3 := H4.out.1.cell 3 _ rfl
              go_wp2_with fail
              go_ret2
              exact RlP.no HT.out H4.out.2
          · have p3 : (k == 3) = false := beq_eq_false_iff_ne.2 k3
            by_cases k4 : k = 4
            · subst k4
              by_cases hl : l = []
              · have e0 : ((Bs l).toList == []) = true := by rw [eq_lit, hl]; rfl
                have HT : Hid (tellM ⟨4, a, n, l⟩ = true) := Lib.hid (by unfold tellM; dsimp only; rw [HQ.out]; rw [if_neg (by decide)]; rw [if_neg (by decide)]; rw [if_neg (by decide)]; rw [if_pos rfl, decide_eq_true hl]; rfl)
                clear hl
                have y0 := H4.out.1.cell 0 _ rfl
                have y1 := H4.out.1.cell 1 _ rfl
                have y2 := H4.out.1.cell 2 _ rfl
                have y3 := H4.out.1.cell 3 _ rfl
                go_wp2_with fail
                go_ret2
                exact RlP.yes HT.out (by rw [txt4, ← draw_bs]) H4.out.2
              · have e0 : ((Bs l).toList == []) = false := by rw [eq_lit]; exact nil_eq hl
                have HT : Hid (tellM ⟨4, a, n, l⟩ = false) := Lib.hid (by unfold tellM; dsimp only; rw [HQ.out]; rw [if_neg (by decide)]; rw [if_neg (by decide)]; rw [if_neg (by decide)]; rw [if_pos rfl, decide_eq_false hl]; rfl)
                clear hl
                have y0 := H4.out.1.cell 0 _ rfl
                have y1 := H4.out.1.cell 1 _ rfl
                have y2 := H4.out.1.cell 2 _ rfl
                have y3 := H4.out.1.cell 3 _ rfl
                go_wp2_with fail
                go_ret2
                exact RlP.no HT.out H4.out.2
            · have HT : Hid (tellM ⟨k, a, n, l⟩ = false) := Lib.hid (by unfold tellM; dsimp only; rw [HQ.out, if_neg k1, if_neg k2, if_neg k3, if_neg k4]; rfl)
              by_cases hl : l = []
              · have e0 : ((Bs l).toList == []) = true := by rw [eq_lit, hl]; rfl
                have p4 : (k == 4) = false := beq_eq_false_iff_ne.2 k4
                clear hl k1 k2 k3 k4
                have y0 := H4.out.1.cell 0 _ rfl
                have y1 := H4.out.1.cell 1 _ rfl
                have y2 := H4.out.1.cell 2 _ rfl
                have y3 := H4.out.1.cell 3 _ rfl
                go_wp2_with fail
                go_ret2
                exact RlP.no HT.out H4.out.2
              · have e0 : ((Bs l).toList == []) = false := by rw [eq_lit]; exact nil_eq hl
                clear hl k1 k2 k3 k4
                have y0 := H4.out.1.cell 0 _ rfl
                have y1 := H4.out.1.cell 1 _ rfl
                have y2 := H4.out.1.cell 2 _ rfl
                have y3 := H4.out.1.cell 3 _ rfl
                go_wp2_with fail
                go_ret2
                exact RlP.no HT.out H4.out.2

end Go.Proofs.YtafnipgeeampjaaGreatDoor

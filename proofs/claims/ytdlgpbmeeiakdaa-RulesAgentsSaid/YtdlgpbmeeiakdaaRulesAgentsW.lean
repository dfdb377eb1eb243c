/-
  The walk of RulesAgents.
-/
import Derived.Test.YtdlgpbmeeiakdaaRows
import Derived.Test.YtdlgpbmeeiakdaaKit
import Derived.Test.YtdlgpbmeeiakdaaApp
import Derived.Test.YtdlgpbmeeiakdaaEv
import Derived.Test.YtdlgpbmeeiakdaaEvP
import Derived.Test.YtdlgpbmeeiakdaaQuiet
import Derived.Test.YtdlgpbmeeiakdaaRules
import Derived.Test.YtdlgpbmeeiakdaaPlA
import Derived.Test.YtdlgpbmeeiakdaaAgS
import Derived.Maps.OwnSet
import Derived.WalkKit
import Derived.ProofKit
import Derived.OpenShut
import Derived.ShutString
import Derived.Below
import Derived.Outline
import Derived.WalkLawsBesides
import Derived.WalkSpells
import Derived.Handy
import Derived.Deep.QuietTactic
import Derived.BigQuiet
import Derived.RegionTactic
import Derived.ChangeAlike
import Derived.Lib.Hide
import Derived.Laws.Rows
import Derived.Laws.Tables
import Derived.Laws.CopyOwn
import Derived.Laws.MakeOwn
import Derived.Laws.Entries
import Derived.Laws.OwnMore
import Derived.Deep.WholeRow
import Derived.Deep.LoopGhost
import Derived.Deep.AppendLies
import Derived.Deep.Draws
import Derived.Maps.AppendAt
import Derived.OwnWalk
import Derived.Deep.RegionHeld3
import Derived.Deep.Cut
import Derived.Deep.CutRange
import Derived.Deep.DeepCutAuto
import Derived.Deep.CutBlock
import Derived.Lib.SliceRun
import Derived.IntWalk
namespace Go.Proofs.Ytdlgpbmeeiakdaa.rulesAgents
open Go.ChangeShapes Go.WideShapes Go.ChangeAt Go.RowKit
set_option maxRecDepth 100000 in
set_option maxHeartbeats 4000000 in
theorem bad (p c n b r f g : Int) (w : World) (h : ¬ ((1 ≤ p ∧ p ≤ 6) ∧ (1 ≤ c ∧ c ≤ 4) ∧ (1 ≤ n ∧ n ≤ 3) ∧ (1 ≤ b ∧ b ≤ 4) ∧ (0 ≤ r ∧ r ≤ 4) ∧ (1 ≤ f ∧ f ≤ 4) ∧ (1 ≤ g ∧ g ≤ 15))) :
    Calls Try.prog 3 #[.agg #[.int .i64 p, .int .i64 c, .int .i64 n, .int .i64 b, .int .i64 r, .int .i64 f, .int .i64 g]] w fun e w' => e = .returned (.bool true) ∧ Below w.heap.size w w' := by
  have HN := Lib.hid (fun W => rnew_bad p c n b r f g W h)
  clear h
  go_enter Try.func3, Try.ntmps3
  go_wp2_with fail
  refine (HN.out _).mono ?_
  rintro e w1 ⟨T, v, rfl, hb1⟩
  have hB1 : Below w.heap.size w w1 := Below.step (by go_grown) hb1
  clear hb1
  go_wp2_with fail
  refine (awake31 _).mono ?_
  rintro e w3 ⟨rfl, hb3⟩
  have hB3 := Below.step (hB1.alloc hB1.size _) hb3
  go_wp2
  go_ret
  exact ⟨rfl, hB3⟩
theorem _root_.Go.Proofs.Ytdlgpbmeeiakdaa.Blk7.under {B O : Nat} {v0 v1 v2 v3 v4 v5 v6 : Int} {w w' : World} (h : Blk7 B v0 v1 v2 v3 v4 v5 v6 w) (hb : Below O w w') (hO : B < O) : Blk7 B v0 v1 v2 v3 v4 v5 v6 w' := by
  obtain ⟨⟨c0, c1, c2, c3, c4, c5, c6⟩, hl⟩ := h
  have hc : ∀ o, w'.cell? ⟨B, o, none⟩ = w.cell? ⟨B, o, none⟩ := fun o => hb.cell (p := ⟨B, o, none⟩) hO
  exact ⟨⟨(hc 0).trans c0, (hc 1).trans c1, (hc 2).trans c2, (hc 3).trans c3, (hc 4).trans c4, (hc 5).trans c5, (hc 6).trans c6⟩, Nat.lt_of_lt_of_le hl hb.size⟩
def S1 (k : Nat) (x : Int) : Bool := decide (0 ≤ x ∧ x < (k : Int))
def S2 (p s i j : Nat) (x : Int) : Bool := decide ((0 ≤ x ∧ x < (p : Int)) ∨ ((p : Int) ≤ x ∧ x < (p : Int) + (i : Int)) ∨ ((p : Int) + (s : Int) ≤ x ∧ x < (p : Int) + (s : Int) + (j : Int)))
theorem bool_ext {a b : Bool} (h : a = true ↔ b = true) : a = b := by cases a <;> cases b <;> simp_all
theorem S1_put (k : Nat) (x : Int) : (decide (x = (k : Int)) || S1 k x) = S1 (k + 1) x := by
  apply bool_ext; unfold S1; simp; omega
theorem S12 (p s : Nat) (x : Int) : S1 p x = S2 p s 0 0 x := by
  apply bool_ext; unfold S1 S2; simp; omega
theorem S2_sw (p s i : Nat) (x : Int) : (decide (x = (p : Int) + (i : Int)) || S2 p s i i x) = S2 p s (i + 1) i x := by
  apply bool_ext; unfold S2; simp; omega
theorem S2_re (p s i : Nat) (x : Int) : (decide (x = (p : Int) + (s : Int) + (i : Int)) || S2 p s (i + 1) i x) = S2 p s (i + 1) (i + 1) x := by
  apply bool_ext; unfold S2; simp; omega
set_option maxRecDepth 100000 in
set_option maxHeartbeats 8000000 in
theorem good (p s : Nat) (c n b r f g : Int) (w : World) (hp : 1 ≤ (p : Int) ∧ (p : Int) ≤ 6) (hc : 1 ≤ c ∧ c ≤ 4) (hn : 1 ≤ n ∧ n ≤ 3) (hb : 1 ≤ b ∧ b ≤ 4) (hr : 0 ≤ r ∧ r ≤ 4) (hf : 1 ≤ f ∧ f ≤ 4) (hg : 1 ≤ g ∧ g ≤ 15) (hs : n * b = (s : Int)) :
    Calls Try.prog 3 #[.agg #[.int .i64 (p : Int), .int .i64 c, .int .i64 n, .int .i64 b, .int .i64 r, .int .i64 f, .int .i64 g]] w fun e w' => e = .returned (.bool true) ∧ Below w.heap.size w w' := by
  have hnb := mul12 hn hb
  have HN := Lib.hid (fun W => rnew_ok p c n b r f g W hp hc hn hb hr hf hg)
  have HSH := Lib.hid (fun W => show Calls Try.prog 12 #[.agg #[.int .i64 (p : Int), .int .i64 c, .int .i64 n, .int .i64 b, .int .i64 r, .int .i64 f, .int .i64 g]] W (fun e w' => e = .returned (.int .i64 (s : Int)) ∧ Below W.heap.size W w') from by rw [← hs]; exact shards_i p c n b r f g W hnb)
  have HAG := Lib.hid (fun W => show Calls Try.prog 15 #[.agg #[.int .i64 (p : Int), .int .i64 c, .int .i64 n, .int .i64 b, .int .i64 r, .int .i64 f, .int .i64 g]] W (fun e w' => e = .returned (.int .i64 ((p : Int) + 2 * (s : Int))) ∧ Below W.heap.size W w') from by rw [← hs]; exact agents_i p c n b r f g W hnb hp)
  have HSW := Lib.hid (fun (i : Nat) (hi : i < s) W => show Calls Try.prog 13 #[.agg #[.int .i64 (p : Int), .int .i64 c, .int .i64 n, .int .i64 b, .int .i64 r, .int .i64 f, .int .i64 g], .int .i64 (i : Int)] W (fun e w' => e = .returned (.int .i64 ((p : Int) + (i : Int))) ∧ Below W.heap.size W w') from sweeper_in p c n b r f g (i : Int) W hnb hb.1 hp (by omega) (by omega))
  have HRE := Lib.hid (fun (i : Nat) (hi : i < s) W => show Calls Try.prog 14 #[.agg #[.int .i64 (p : Int), .int .i64 c, .int .i64 n, .int .i64 b, .int .i64 r, .int .i64 f, .int .i64 g], .int .i64 (i : Int)] W (fun e w' => e = .returned (.int .i64 ((p : Int) + (s : Int) + (i : Int))) ∧ Below W.heap.size W w') from by rw [← hs]; exact reaper_in p c n b r f g (i : Int) W hnb hb.1 hp (by omega) (by omega))
  have s1 : (1 : Int) ≤ (s : Int) := by omega
  have s2 : (s : Int) ≤ 12 := by omega
  obtain ⟨p1, p2⟩ := hp
  have bx0 := Blk7.new w p c n b r f g 23
  have hmm := @run_makeMap Try.prog
  clear hs hnb hc hn hb hr hf hg
  go_enter Try.func3, Try.ntmps3
  go_wp2_with fail
  refine (HN.out _).mono ?_
  rintro e w1 ⟨rfl, hb1⟩
  have bx1 := bx0.below hb1
  have hB1 : Below w.heap.size w w1 := Below.step (by go_grown) hb1
  have hs1 := hB1.size
  have bR1 := Blk7.new w1 p c n b r f g 25
  have hB1a := hB1.alloc hs1 (.cells #[.int .i64 (p : Int), .int .i64 c, .int .i64 n, .int .i64 b, .int .i64 r, .int .i64 f, .int .i64 g] 25)
  have bC1 := bx1.below (show Below w1.heap.size w1 (w1.alloc (.cells #[.int .i64 (p : Int), .int .i64 c, .int .i64 n, .int .i64 b, .int .i64 r, .int .i64 f, .int .i64 g] 25)) from by go_grown)
  have bC2 := bC1.below (show Below _ _ ((w1.alloc (.cells #[.int .i64 (p : Int), .int .i64 c, .int .i64 n, .int .i64 b, .int .i64 r, .int .i64 f, .int .i64 g] 25)).alloc (.map #[] 0)) from by go_grown)
  have bR2 := bR1.below (show Below _ _ ((w1.alloc (.cells #[.int .i64 (p : Int), .int .i64 c, .int .i64 n, .int .i64 b, .int .i64 r, .int .i64 f, .int .i64 g] 25)).alloc (.map #[] 0)) from by go_grown)
  have hM := SetM.made (w1.alloc (.cells #[.int .i64 (p : Int), .int .i64 c, .int .i64 n, .int .i64 b, .int .i64 r, .int .i64 f, .int .i64 g] 25))
  have hB2 := hB1a.alloc hB1a.size (.map #[] 0)
  obtain ⟨⟨c0, c1, c2, c3, c4, c5, c6⟩, hlx⟩ := id bx1
  clear hb1 bx0 bR1 bC1
  go_wp2_with fail
  obtain ⟨W3, hW3⟩ : ∃ W3, W3 = (w1.alloc (.cells #[.int .i64 (p : Int), .int .i64 c, .int .i64 n, .int .i64 b, .int .i64 r, .int .i64 f, .int .i64 g] 25)).alloc (.map #[] 0) := ⟨_, rfl⟩
  rw [← hW3] at hM hB2 bC2 bR2 ⊢
  rw [World.size_alloc] at hM
  have hO1 : w.heap.size < w1.heap.size + 1 := by omega
  have HW := Lib.hid (show w.heap.size ≤ w1.heap.size + 1 from by omega)
  have hM1 := hM.ext (T := S1 0) (by intro x; apply bool_ext; unfold S1; simp <;> omega)
  obtain ⟨O, hO⟩ : ∃ O, O = w1.heap.size + 1 := ⟨_, rfl⟩
  rw [← hO] at hM1 hO1 HW ⊢
  have hRO : w1.heap.size < O := by omega
  have HM1 := Lib.hid hM1
  clear hmm hW3 hM hM1 c0 c1 c2 c3 c4 c5 c6 hlx bx1 hB1 hB1a hO hs1
  generalize w1.heap.size = RB at *
  go_loopw [20] (fun i wr => ∃ k : Nat, k ≤ p ∧ i = .int .i64 (k : Int) ∧ Hid (SetM wr O (S1 k) k) ∧ Below O W3 wr) (fun i _ => p + 1 - (intOf i).toNat)
  case atStart => exact ⟨0, Nat.zero_le _, rfl, HM1, Below.refl _ _⟩
  case round =>
    clear HM1
    obtain ⟨k, hk, rfl, HM, hB⟩ := hrel
    have k0 : (0 : Int) ≤ (k : Int) := by omega
    by_cases hkp : k < p
    · have k1 : (k : Int) < (p : Int) := by omega
      have hnew : S1 k (k : Int) = false := by unfold S1; simp
      have hOl := HM.out.lt
      go_wp2_with (at_mapUpdate; refine wpList_setm rfl _ _ _ rfl O k (S1 k) rfl HM.out (by omega) (k : Int) rfl (by omega) (by omega) rfl hnew ?_; intro w3 hm3 hg3; have HP := Lib.hid (And.intro hm3 hg3); clear hm3 hg3)
      go_roundw
      case rel => exact ⟨k + 1, by omega, by go_num, Lib.hid (HP.out.1.ext (fun x => S1_put k x)), Below.grown hB HP.out.2 (Nat.le_of_lt hOl) (fun g e => by injection e with e; omega)⟩
      case measure => simp [intOf]; omega
    · obtain rfl : k = p := by omega
      have hd : decide ((k : Int) < (k : Int)) = false := decide_eq_false (by omega)
      obtain ⟨⟨c0, c1, c2, c3, c4, c5, c6⟩, hlx⟩ := bR2.under hB hRO
      have HM1 := Lib.hid (HM.out.ext (fun x => S12 k s x))
      go_wp2_with fail
      refine (HSH.out _).mono ?_
      rintro e w4 ⟨rfl, hb4⟩
      have HM4 := Lib.hid (HM1.out.below hb4)
      have hB4 := hB.trans (hb4.mono (Nat.le_of_lt HM.out.lt))
      clear hb4 c0 c1 c2 c3 c4 c5 c6 hlx HM HM1 hB
      go_wp2_with fail
      go_loopw [28] (fun j wr => ∃ i : Nat, i ≤ s ∧ j = .int .i64 (i : Int) ∧ Hid (SetM wr O (S2 k s i i) (k + 2 * i)) ∧ Below O W3 wr) (fun j _ => s + 1 - (intOf j).toNat)
      case atStart => exact ⟨0, Nat.zero_le _, rfl, HM4, hB4⟩
      case round =>
        clear HM4 hB4
        obtain ⟨i, hi, rfl, HM, hB⟩ := hrel
        have i0 : (0 : Int) ≤ (i : Int) := by omega
        by_cases his : i < s
        · have i1 : (i : Int) < (s : Int) := by omega
          have bR3 := bR2.under hB hRO
          obtain ⟨⟨c0, c1, c2, c3, c4, c5, c6⟩, hlx⟩ := id bR3
          have hOl := HM.out.lt
          have hnew1 : S2 k s i i ((k : Int) + (i : Int)) = false := by unfold S2; simp <;> omega
          have hnew2 : S2 k s (i + 1) i ((k : Int) + (s : Int) + (i : Int)) = false := by unfold S2; simp <;> omega
          have H1 := Lib.hid hnew1
          have H2 := Lib.hid hnew2
          clear hnew1 hnew2
          go_wp2_with fail
          refine (HSW.out i his _).mono ?_
          rintro e w4 ⟨rfl, hb4⟩
          have HM4 := Lib.hid (HM.out.below hb4)
          have hB4 := hB.trans (hb4.mono (Nat.le_of_lt hOl))
          have hOl4 := HM4.out.lt
          have bR4 := bR3.below hb4
          clear hb4 c0 c1 c2 c3 c4 c5 c6 hlx bR3 hB HM
          go_wp2_with (at_mapUpdate; refine wpList_setm rfl _ _ _ rfl O (k + 2 * i) (S2 k s i i) rfl HM4.out (by omega) ((k : Int) + (i : Int)) rfl (by omega) (by omega) rfl H1.out ?_; intro w3 hm3 hg3; have HP := Lib.hid (And.intro hm3 hg3); clear hm3 hg3; obtain ⟨⟨c0, c1, c2, c3, c4, c5, c6⟩, hlx⟩ := bR4.under (Below.grown (Below.refl O _) HP.out.2 (Nat.le_of_lt hOl4) (fun g e => by injection e with e; omega)) hRO)
          refine (HRE.out i his _).mono ?_
          rintro e w6 ⟨rfl, hb6⟩
          have HM5 := HP.out.1.ext (fun x => S2_sw k s i x)
          have hB5 := Below.grown hB4 HP.out.2 (Nat.le_of_lt hOl4) (fun g e => by injection e with e; omega)
          have HM6 := Lib.hid (HM5.below hb6)
          have hB6 := hB5.trans (hb6.mono (Nat.le_of_lt HM5.lt))
          have hOl6 := HM6.out.lt
          clear hb6 HM5 hB5 HP hB4 HM4 c0 c1 c2 c3 c4 c5 c6 hlx
          go_wp2_with (at_mapUpdate; refine wpList_setm rfl _ _ _ rfl O (k + 2 * i + 1) (S2 k s (i + 1) i) rfl HM6.out (by omega) ((k : Int) + (s : Int) + (i : Int)) rfl (by omega) (by omega) rfl H2.out ?_; intro w7 hm3 hg3; have HP := Lib.hid (And.intro hm3 hg3); clear hm3 hg3)
          go_roundw
          case rel => exact ⟨i + 1, by omega, by go_num, Lib.hid (HP.out.1.ext (fun x => S2_re k s i x)), Below.grown hB6 HP.out.2 (Nat.le_of_lt hOl6) (fun g e => by injection e with e; omega)⟩
          case measure => simp [intOf]; omega
        · obtain rfl : i = s := by omega
          have hd2 : decide ((i : Int) < (i : Int)) = false := decide_eq_false (by omega)
          have bR3 := bR2.under hB hRO
          have bC3 := bC2.under hB hO1
          obtain ⟨⟨c0, c1, c2, c3, c4, c5, c6⟩, hlx⟩ := id bR3
          have hBw := hB2.trans (hB.mono HW.out)
          go_wp2_with fail
          refine (HAG.out _).mono ?_
          rintro e w4 ⟨rfl, hb4⟩
          have HM4 := Lib.hid (HM.out.below hb4)
          have bR4 := bR3.below hb4
          have bC4 := bC3.below hb4
          have hB4 := Below.step hBw hb4
          clear hb4 c0 c1 c2 c3 c4 c5 c6 hlx bR3 bC3 hB HM hBw
          go_wp2_with fail
          go_loopw [42] (fun j wr => wr = w4 ∧ ∃ a : Nat, a ≤ k + 2 * i ∧ j = .int .i64 (a : Int)) (fun j _ => k + 2 * i + 1 - (intOf j).toNat)
          case atStart => exact ⟨rfl, 0, Nat.zero_le _, rfl⟩
          case round =>
            obtain ⟨rfl, a, ha, rfl⟩ := hrel
            have a0 : (0 : Int) ≤ (a : Int) := by omega
            by_cases hal : a < k + 2 * i
            · have a1 : (a : Int) < (k : Int) + 2 * (i : Int) := by omega
              have hlk := HM4.out.look (a : Int) a0 (by omega)
              rw [show S2 k i i i (a : Int) = true from by unfold S2; simp; omega] at hlk
              go_wp2_with fail
              go_roundw
              case rel => exact ⟨trivial, a + 1, by omega, by go_num⟩
              case measure => simp [intOf]; omega
            · obtain rfl : a = k + 2 * i := by omega
              have hd3 : decide ((((k + 2 * i : Nat)) : Int) < (k : Int) + 2 * (i : Int)) = false := decide_eq_false (by omega)
              have hlen : ∀ wq, Sc wr wq → (Builtin.len_ #[31] 3 #[.map (some O)]).run Try.prog wq = .ok (.int .i64 ((k : Int) + 2 * (i : Int))) wq := fun wq hq => by
                rw [(HM4.out.below hq).len]; push_cast; rfl
              go_wp2_with fail
              refine region_sc (by kernel_rfl) (by kernel_rfl) ?_
              go_big_quiet_want
              go_big_quiet_op
              refine ⟨.bool true, fun wq hq => Sc.call awake31 hq, ?_⟩
              go_big_quiet_on
              iterate 2 (first | go_big_quiet_skip | (go_big_quiet_want; go_big_quiet_op; first | go_big_quiet_on | (refine ⟨_, fun _ _ => rfl, ?_⟩; go_big_quiet_on)))
              go_big_quiet_want
              refine ⟨.int .i64 ((k : Int) + 2 * (i : Int)), fun wq hq => ?_, ?_⟩
              · have hle := hlen wq hq
                unfold Oper.quietAt
                simp [go_sem, execOp, resolve, invoke, builtin, hle, Oper.quietUpon, Result.andThen]
              simp only [Act.put, List.setIfInBounds_toArray, List.set_cons_zero, List.set_cons_succ]
              go_big_quiet_on
              go_big_quiet_want
              refine ⟨.agg #[.int .i64 (k : Int), .int .i64 c, .int .i64 n, .int .i64 b, .int .i64 r, .int .i64 f, .int .i64 g], fun wq hq => ?_, ?_⟩
              · obtain ⟨⟨q0, q1, q2, q3, q4, q5, q6⟩, _⟩ := bR4.below hq
                unfold Oper.quietAt
                simp [go_sem, q0, q1, q2, q3, q4, q5, q6, Oper.quietUpon]
              simp only [Act.put, List.setIfInBounds_toArray, List.set_cons_zero, List.set_cons_succ]
              go_big_quiet_on
              go_big_quiet_want
              go_big_quiet_op
              refine ⟨.int .i64 ((k : Int) + 2 * (i : Int)), fun wq hq => Sc.call HAG.out hq, ?_⟩
              go_big_quiet_on
              iterate 4 (first | go_big_quiet_skip | (go_big_quiet_want; go_big_quiet_op; first | go_big_quiet_on | (refine ⟨_, fun _ _ => rfl, ?_⟩; go_big_quiet_on)))
              go_big_quiet_want
              refine ⟨.int .i64 ((k : Int) + 2 * (i : Int)), fun wq hq => ?_, ?_⟩
              · have hle := hlen wq hq
                unfold Oper.quietAt
                simp [go_sem, execOp, resolve, invoke, builtin, hle, Oper.quietUpon, Result.andThen]
              simp only [Act.put, List.setIfInBounds_toArray, List.set_cons_zero, List.set_cons_succ]
              go_big_quiet_on
              iterate 1 (first | go_big_quiet_skip | (go_big_quiet_want; go_big_quiet_op; first | go_big_quiet_on | (refine ⟨_, fun _ _ => rfl, ?_⟩; go_big_quiet_on)))
              go_big_quiet_want
              refine ⟨.int .i64 (k : Int), fun wq hq => ?_, ?_⟩
              · obtain ⟨⟨q0, q1, q2, q3, q4, q5, q6⟩, _⟩ := bC4.below hq
                unfold Oper.quietAt
                simp [go_sem, q0, q1, q2, q3, q4, q5, q6, Oper.quietUpon]
              simp only [Act.put, List.setIfInBounds_toArray, List.set_cons_zero, List.set_cons_succ]
              go_big_quiet_on
              go_big_quiet_want
              refine ⟨.agg #[.int .i64 (k : Int), .int .i64 c, .int .i64 n, .int .i64 b, .int .i64 r, .int .i64 f, .int .i64 g], fun wq hq => ?_, ?_⟩
              · obtain ⟨⟨q0, q1, q2, q3, q4, q5, q6⟩, _⟩ := bR4.below hq
                unfold Oper.quietAt
                simp [go_sem, q0, q1, q2, q3, q4, q5, q6, Oper.quietUpon]
              simp only [Act.put, List.setIfInBounds_toArray, List.set_cons_zero, List.set_cons_succ]
              go_big_quiet_on
              go_big_quiet_want
              go_big_quiet_op
              refine ⟨.int .i64 (i : Int), fun wq hq => Sc.call HSH.out hq, ?_⟩
              go_big_quiet_on
              iterate 5 (first | go_big_quiet_skip | (go_big_quiet_want; go_big_quiet_op; first | go_big_quiet_on | (refine ⟨_, fun _ _ => rfl, ?_⟩; go_big_quiet_on)))
              refine wpQuiet_nil ?_
              intro w5 hS4
              go_wp2_with fail
              go_ret
              exact ⟨rfl, Below.step hB4 hS4⟩
theorem walk (a0_0 a0_1 a0_2 a0_3 a0_4 a0_5 a0_6 : Int) (w : World) (_ : (Lit.int .i64 a0_0).wf = true) (_ : (Lit.int .i64 a0_1).wf = true) (_ : (Lit.int .i64 a0_2).wf = true) (_ : (Lit.int .i64 a0_3).wf = true) (_ : (Lit.int .i64 a0_4).wf = true) (_ : (Lit.int .i64 a0_5).wf = true) (_ : (Lit.int .i64 a0_6).wf = true) :
    Calls Try.prog 3 #[.agg #[.int .i64 a0_0, .int .i64 a0_1, .int .i64 a0_2, .int .i64 a0_3, .int .i64 a0_4, .int .i64 a0_5, .int .i64 a0_6]] w fun e w' => e = .returned (.bool true) ∧ Below w.heap.size w w' := by
  by_cases h : (1 ≤ a0_0 ∧ a0_0 ≤ 6) ∧ (1 ≤ a0_1 ∧ a0_1 ≤ 4) ∧ (1 ≤ a0_2 ∧ a0_2 ≤ 3) ∧ (1 ≤ a0_3 ∧ a0_3 ≤ 4) ∧ (0 ≤ a0_4 ∧ a0_4 ≤ 4) ∧ (1 ≤ a0_5 ∧ a0_5 ≤ 4) ∧ (1 ≤ a0_6 ∧ a0_6 ≤ 15)
  · obtain ⟨hp, hc, hn, hb, hr, hf, hg⟩ := h
    have hnb := mul12 hn hb
    obtain ⟨p, rfl⟩ : ∃ p : Nat, a0_0 = (p : Int) := ⟨a0_0.toNat, by omega⟩
    exact good p (a0_2 * a0_3).toNat _ _ _ _ _ _ w hp hc hn hb hr hf hg (by omega)
  · exact bad _ _ _ _ _ _ _ w h
end Go.Proofs.Ytdlgpbmeeiakdaa.rulesAgents

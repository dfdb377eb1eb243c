/-
  The walk of PlanRounds.
-/
import Derived.Test.YtdlgpbmeeiakdaaRows
import Derived.Test.YtdlgpbmeeiakdaaKit
import Derived.Test.YtdlgpbmeeiakdaaApp
import Derived.Test.YtdlgpbmeeiakdaaEv
import Derived.Test.YtdlgpbmeeiakdaaEvP
import Derived.Test.YtdlgpbmeeiakdaaEvQ
import Derived.Test.YtdlgpbmeeiakdaaEvR
import Derived.Test.YtdlgpbmeeiakdaaQuiet
import Derived.Test.YtdlgpbmeeiakdaaRules
import Derived.Test.YtdlgpbmeeiakdaaPlA
import Derived.Test.YtdlgpbmeeiakdaaPlB
import Derived.Test.YtdlgpbmeeiakdaaPlC
import Derived.Test.YtdlgpbmeeiakdaaPlD
import Derived.Test.YtdlgpbmeeiakdaaPlE
import Derived.WalkKit
import Derived.ProofKit
import Derived.OpenShut
import Derived.ShutString
import Derived.Below
import Derived.Outline
import Derived.WalkLawsBesides
import Derived.WalkSpells
import Derived.Handy
import Derived.Deep.QuietTactic
import Derived.BigQuiet
import Derived.RegionTactic
import Derived.ChangeAlike
import Derived.Lib.Hide
import Derived.Laws.Rows
import Derived.Laws.Tables
import Derived.Laws.CopyOwn
import Derived.Laws.MakeOwn
import Derived.Laws.Entries
import Derived.Laws.OwnMore
import Derived.Deep.WholeRow
import Derived.Deep.LoopGhost
import Derived.Deep.AppendLies
import Derived.Deep.Draws
import Derived.Maps.AppendAt
import Derived.OwnWalk
import Derived.Deep.RegionHeld3
import Derived.Deep.Cut
import Derived.Deep.CutRange
import Derived.Deep.DeepCutAuto
import Derived.Deep.CutBlock
import Derived.Lib.SliceRun
import Derived.IntWalk
namespace Go.Proofs.Ytdlgpbmeeiakdaa.planRounds
open Go.ChangeShapes Go.WideShapes Go.ChangeAt Go.RowKit
set_option maxRecDepth 100000 in
set_option maxHeartbeats 4000000 in
theorem bad (p c n b r f g x : Int) (w : World) (h : ¬ ((1 ≤ p ∧ p ≤ 6) ∧ (1 ≤ c ∧ c ≤ 4) ∧ (1 ≤ n ∧ n ≤ 3) ∧ (1 ≤ b ∧ b ≤ 4) ∧ (0 ≤ r ∧ r ≤ 4) ∧ (1 ≤ f ∧ f ≤ 4) ∧ (1 ≤ g ∧ g ≤ 15))) :
    Calls Try.prog 7 #[.agg #[.int .i64 p, .int .i64 c, .int .i64 n, .int .i64 b, .int .i64 r, .int .i64 f, .int .i64 g], .int .u8 x] w fun e w' => e = .returned (.bool true) ∧ Below w.heap.size w w' := by
  have HN := Lib.hid (fun W => rnew_bad p c n b r f g W h)
  clear h
  go_enter Try.func7, Try.ntmps7
  go_wp2_with fail
  refine (HN.out _).mono ?_
  rintro e w1 ⟨T, v, rfl, hb1⟩
  have hB1 : Below w.heap.size w w1 := Below.step (by go_grown) hb1
  clear hb1
  go_wp2_with fail
  refine (awake21 _).mono ?_
  rintro e w3 ⟨rfl, hb3⟩
  have hB3 := Below.step (hB1.alloc hB1.size _) hb3
  go_wp2
  go_ret
  exact ⟨rfl, hB3⟩
set_option maxRecDepth 100000 in
set_option maxHeartbeats 8000000 in
theorem good (p c n b r f g x : Int) (m K : Nat) (w : World) (hp : 1 ≤ p ∧ p ≤ 6) (hc : 1 ≤ c ∧ c ≤ 4) (hn : 1 ≤ n ∧ n ≤ 3) (hb : 1 ≤ b ∧ b ≤ 4) (hr : 0 ≤ r ∧ r ≤ 4) (hf : 1 ≤ f ∧ f ≤ 4) (hg : 1 ≤ g ∧ g ≤ 15)
    (hm : (m : Int) = p + 2 * (n * b)) (hx : 0 ≤ x ∧ x ≤ 255) (hK : (K : Int) = x.tmod 20) (hK2 : K < 20) :
    Calls Try.prog 7 #[.agg #[.int .i64 p, .int .i64 c, .int .i64 n, .int .i64 b, .int .i64 r, .int .i64 f, .int .i64 g], .int .u8 x] w fun e w' => e = .returned (.bool true) ∧ Below w.heap.size w w' := by
  have hnb := mul12 hn hb
  have HN := Lib.hid (fun W => rnew_ok p c n b r f g W hp hc hn hb hr hf hg)
  have HRD := Lib.hid (fun W => round_is p c n b r f g m K W hm hnb hp (by omega))
  have HPI := Lib.hid (fun (A : Option Addr) (cap : Nat) (l : List Ev) (W : World) (h : EAt W A l) (hl : l.length ≤ 100000) => picked_is p c n b r f g m A cap l W h hl hm hnb hp)
  have HAG := Lib.hid (fun W => show Calls Try.prog 15 #[.agg #[.int .i64 p, .int .i64 c, .int .i64 n, .int .i64 b, .int .i64 r, .int .i64 f, .int .i64 g]] W (fun e w' => e = .returned (.int .i64 (m : Int)) ∧ Below W.heap.size W w') from by rw [hm]; exact agents_i p c n b r f g W hnb hp)
  have HFY := Lib.hid (fun (A : Option Addr) (cap : Nat) (W : World) (h : EAt W A (rnd m (K * m))) (hl : (rnd m (K * m)).length ≤ 100000) => fair_yes p c n b r f g (m : Int) m A cap (rnd m (K * m)) W h hl hm hnb hp (by omega) (fun a ha => by have h := (rnd_fair m a K ha).1; omega))
  have HFN := Lib.hid (fun (hK : 2 ≤ K) (A : Option Addr) (cap : Nat) (W : World) (h : EAt W A (rnd m (K * m))) (hl : (rnd m (K * m)).length ≤ 100000) => fair_no p c n b r f g ((m : Int) - 1) m A cap (rnd m (K * m)) W h hl hm hnb hp (by omega) (by have h := (rnd_fair m 0 K (by omega)).2 hK; have h2 : ((0 : Nat) : Int) = 0 := rfl; rw [h2] at h; rw [h]; omega))
  have m2 : m ≤ 30 := by omega
  have m3 : 3 ≤ m := by omega
  have m0 : (3 : Int) ≤ (m : Int) := by omega
  have m1 : (m : Int) ≤ 30 := by omega
  have hKm : K * m ≤ 20 * 30 := Nat.mul_le_mul (by omega) (by omega)
  obtain ⟨x0, x1⟩ := hx
  have hrem : x.tmod 20 = (K : Int) := hK.symm
  have k0 : (0 : Int) ≤ (K : Int) := by omega
  have k1 : (K : Int) < 20 := by omega
  have hKM : (K : Int) * (m : Int) = ((K * m : Nat) : Int) := by push_cast; rfl
  have hKM1 : ((K * m : Nat) : Int) ≤ 600 := by omega
  have HKM := Lib.hid hKM
  clear hm hnb hp hc hn hb hr hf hg hK hKM
  go_enter Try.func7, Try.ntmps7
  go_wp2_with fail
  refine (HN.out _).mono ?_
  rintro e w1 ⟨rfl, hb1⟩
  have hB1 : Below w.heap.size w w1 := Below.step (by go_grown) hb1
  have hs1 := hB1.size
  have bR1 := Blk7.new w1 p c n b r f g 25
  have hB1a := hB1.alloc hs1 (.cells #[.int .i64 p, .int .i64 c, .int .i64 n, .int .i64 b, .int .i64 r, .int .i64 f, .int .i64 g] 25)
  obtain ⟨⟨c0, c1, c2, c3, c4, c5, c6⟩, hlR⟩ := id bR1
  clear hb1
  go_wp2_with fail
  refine (HRD.out _).mono ?_
  rintro e w2 ⟨v, rfl, hO, hb2⟩
  have hB2 := Below.step hB1a hb2
  have bR2 := bR1.below hb2
  have hO' := hO
  rw [rnd_len] at hO'
  have hcnt : ∀ j : Nat, j < m → cnt (j : Int) (rnd m (K * m)) = K := by
    intro j hj
    have h := rnd_cnt m j hj K 0 (Nat.zero_le _)
    rw [Nat.add_zero, if_neg (by omega)] at h
    exact h
  have hLn := rnd_len m (K * m)
  have HCN := Lib.hid hcnt
  obtain ⟨A, cp, rfl⟩ := own_shape hO
  have hE2 := EAt.of_own hO
  generalize rnd m (K * m) = L at *
  have hL0 : (L.length : Int) ≤ 600 := by omega
  have hL5 : L.length ≤ 100000 := by omega
  have hlen : ((L.length : Int) == (K : Int) * (m : Int)) = true := by rw [HKM.out, hLn]; simp
  have hKa : 0 ≤ (K : Int) * (m : Int) := by rw [HKM.out]; omega
  have hKb : (K : Int) * (m : Int) ≤ 600 := by rw [HKM.out]; omega
  have HE2 := Lib.hid hE2
  clear hO hO' hE2 hb2 hcnt bR1 c0 c1 c2 c3 c4 c5 c6 hlR hLn hKM1
  obtain ⟨⟨c0, c1, c2, c3, c4, c5, c6⟩, hlR⟩ := id bR2
  go_wp2_with fail
  refine (HPI.out A cp L _ HE2.out hL5).mono ?_
  rintro e w3 ⟨O, rfl, hO, HC, hb3⟩
  have hB3 := Below.step hB2 hb3
  have bR3 := bR2.below hb3
  have HE3 := Lib.hid (HE2.out.below hb3)
  clear hb3 bR2 HE2 c0 c1 c2 c3 c4 c5 c6 hlR hO
  go_wp2_with fail
  go_loopw [29] (fun i wr => wr = w3 ∧ ∃ j : Nat, j ≤ m ∧ i = .int .i64 (j : Int)) (fun i _ => m + 1 - (intOf i).toNat)
  case atStart => exact ⟨rfl, 0, Nat.zero_le _, rfl⟩
  case round =>
    obtain ⟨rfl, j, hj, rfl⟩ := hrel
    have j0 : (0 : Int) ≤ (j : Int) := by omega
    by_cases hjm : j < m
    · have j1 : (j : Int) < (m : Int) := by omega
      obtain ⟨y0, y1, y2⟩ := HC.out.cell j hjm
      rw [HCN.out j hjm] at y0
      have hkk : ((K : Int) != (K : Int)) = false := by simp
      go_wp2_with fail
      go_roundw
      case rel => exact ⟨trivial, j + 1, by omega, by go_num⟩
      case measure => simp [intOf]; omega
    · obtain rfl : j = m := by omega
      have hd : decide ((j : Int) < (j : Int)) = false := decide_eq_false (by omega)
      have HFY1 := Lib.hid (fun (wq : World) (hq : Sc wr wq) => (HFY.out A cp wq (HE3.out.below hq) hL5))
      go_wp2_with fail
      by_cases h2 : 2 ≤ K
      · have hk2 : decide ((K : Int) < 2) = false := decide_eq_false (by omega)
        have bR4 : Blk7 w1.heap.size p c n b r f g wr := bR3
        refine region_sc (by kernel_rfl) (by kernel_rfl) ?_
        go_big_quiet_want
        go_big_quiet_op
        refine ⟨.bool true, fun wq hq => Sc.call awake21 hq, ?_⟩
        go_big_quiet_on
        iterate 4 (first | go_big_quiet_skip | (go_big_quiet_want; go_big_quiet_op; first | go_big_quiet_on | (refine ⟨_, fun _ _ => rfl, ?_⟩; go_big_quiet_on)))
        go_big_quiet_want
        refine ⟨.agg #[.int .i64 p, .int .i64 c, .int .i64 n, .int .i64 b, .int .i64 r, .int .i64 f, .int .i64 g], fun wq hq => ?_, ?_⟩
        · obtain ⟨⟨q0, q1, q2, q3, q4, q5, q6⟩, _⟩ := bR4.below hq
          unfold Oper.quietAt
          simp [go_sem, q0, q1, q2, q3, q4, q5, q6, Oper.quietUpon]
        simp only [Act.put, List.setIfInBounds_toArray, List.set_cons_zero, List.set_cons_succ]
        go_big_quiet_on
        go_big_quiet_want
        go_big_quiet_op
        refine ⟨.int .i64 (j : Int), fun wq hq => Sc.call HAG.out hq, ?_⟩
        go_big_quiet_on
        iterate 4 (first | go_big_quiet_skip | (go_big_quiet_want; go_big_quiet_op; first | go_big_quiet_on | (refine ⟨_, fun _ _ => rfl, ?_⟩; go_big_quiet_on)))
        go_big_quiet_want
        refine ⟨.agg #[.int .i64 p, .int .i64 c, .int .i64 n, .int .i64 b, .int .i64 r, .int .i64 f, .int .i64 g], fun wq hq => ?_, ?_⟩
        · obtain ⟨⟨q0, q1, q2, q3, q4, q5, q6⟩, _⟩ := bR4.below hq
          unfold Oper.quietAt
          simp [go_sem, q0, q1, q2, q3, q4, q5, q6, Oper.quietUpon]
        simp only [Act.put, List.setIfInBounds_toArray, List.set_cons_zero, List.set_cons_succ]
        go_big_quiet_on
        go_big_quiet_want
        refine ⟨.agg #[.int .i64 p, .int .i64 c, .int .i64 n, .int .i64 b, .int .i64 r, .int .i64 f, .int .i64 g], fun wq hq => ?_, ?_⟩
        · obtain ⟨⟨q0, q1, q2, q3, q4, q5, q6⟩, _⟩ := bR4.below hq
          unfold Oper.quietAt
          simp [go_sem, q0, q1, q2, q3, q4, q5, q6, Oper.quietUpon]
        simp only [Act.put, List.setIfInBounds_toArray, List.set_cons_zero, List.set_cons_succ]
        go_big_quiet_on
        go_big_quiet_want
        go_big_quiet_op
        refine ⟨.int .i64 (j : Int), fun wq hq => Sc.call HAG.out hq, ?_⟩
        go_big_quiet_on
        iterate 1 (first | go_big_quiet_skip | (go_big_quiet_want; go_big_quiet_op; first | go_big_quiet_on | (refine ⟨_, fun _ _ => rfl, ?_⟩; go_big_quiet_on)))
        go_big_quiet_want
        go_big_quiet_op
        refine ⟨.bool true, fun wq hq => (HFY1.out wq hq).mono fun _ _ ⟨he, hb⟩ => ⟨he, Below.step hq hb⟩, ?_⟩
        go_big_quiet_on
        iterate 5 (first | go_big_quiet_skip | (go_big_quiet_want; go_big_quiet_op; first | go_big_quiet_on | (refine ⟨_, fun _ _ => rfl, ?_⟩; go_big_quiet_on)))
        go_big_quiet_want
        refine ⟨.agg #[.int .i64 p, .int .i64 c, .int .i64 n, .int .i64 b, .int .i64 r, .int .i64 f, .int .i64 g], fun wq hq => ?_, ?_⟩
        · obtain ⟨⟨q0, q1, q2, q3, q4, q5, q6⟩, _⟩ := bR4.below hq
          unfold Oper.quietAt
          simp [go_sem, q0, q1, q2, q3, q4, q5, q6, Oper.quietUpon]
        simp only [Act.put, List.setIfInBounds_toArray, List.set_cons_zero, List.set_cons_succ]
        go_big_quiet_on
        go_big_quiet_want
        refine ⟨.agg #[.int .i64 p, .int .i64 c, .int .i64 n, .int .i64 b, .int .i64 r, .int .i64 f, .int .i64 g], fun wq hq => ?_, ?_⟩
        · obtain ⟨⟨q0, q1, q2, q3, q4, q5, q6⟩, _⟩ := bR4.below hq
          unfold Oper.quietAt
          simp [go_sem, q0, q1, q2, q3, q4, q5, q6, Oper.quietUpon]
        simp only [Act.put, List.setIfInBounds_toArray, List.set_cons_zero, List.set_cons_succ]
        go_big_quiet_on
        go_big_quiet_want
        go_big_quiet_op
        refine ⟨.int .i64 (j : Int), fun wq hq => Sc.call HAG.out hq, ?_⟩
        go_big_quiet_on
        iterate 2 (first | go_big_quiet_skip | (go_big_quiet_want; go_big_quiet_op; first | go_big_quiet_on | (refine ⟨_, fun _ _ => rfl, ?_⟩; go_big_quiet_on)))
        go_big_quiet_want
        go_big_quiet_op
        refine ⟨.bool false, fun wq hq => ((HFN.out h2 A cp wq (HE3.out.below hq) hL5)).mono fun _ _ ⟨he, hb⟩ => ⟨he, Below.step hq hb⟩, ?_⟩
        go_big_quiet_on
        iterate 4 (first | go_big_quiet_skip | (go_big_quiet_want; go_big_quiet_op; first | go_big_quiet_on | (refine ⟨_, fun _ _ => rfl, ?_⟩; go_big_quiet_on)))
        refine wpQuiet_nil ?_
        intro w4 hS4
        go_wp2_with fail
        go_ret
        exact ⟨rfl, Below.step hB3 hS4⟩
      · have hk2 : decide ((K : Int) < 2) = true := decide_eq_true (by omega)
        have bR4 : Blk7 w1.heap.size p c n b r f g wr := bR3
        refine region_sc (by kernel_rfl) (by kernel_rfl) ?_
        go_big_quiet_want
        go_big_quiet_op
        refine ⟨.bool true, fun wq hq => Sc.call awake21 hq, ?_⟩
        go_big_quiet_on
        iterate 4 (first | go_big_quiet_skip | (go_big_quiet_want; go_big_quiet_op; first | go_big_quiet_on | (refine ⟨_, fun _ _ => rfl, ?_⟩; go_big_quiet_on)))
        go_big_quiet_want
        refine ⟨.agg #[.int .i64 p, .int .i64 c, .int .i64 n, .int .i64 b, .int .i64 r, .int .i64 f, .int .i64 g], fun wq hq => ?_, ?_⟩
        · obtain ⟨⟨q0, q1, q2, q3, q4, q5, q6⟩, _⟩ := bR4.below hq
          unfold Oper.quietAt
          simp [go_sem, q0, q1, q2, q3, q4, q5, q6, Oper.quietUpon]
        simp only [Act.put, List.setIfInBounds_toArray, List.set_cons_zero, List.set_cons_succ]
        go_big_quiet_on
        go_big_quiet_want
        go_big_quiet_op
        refine ⟨.int .i64 (j : Int), fun wq hq => Sc.call HAG.out hq, ?_⟩
        go_big_quiet_on
        iterate 4 (first | go_big_quiet_skip | (go_big_quiet_want; go_big_quiet_op; first | go_big_quiet_on | (refine ⟨_, fun _ _ => rfl, ?_⟩; go_big_quiet_on)))
        go_big_quiet_want
        refine ⟨.agg #[.int .i64 p, .int .i64 c, .int .i64 n, .int .i64 b, .int .i64 r, .int .i64 f, .int .i64 g], fun wq hq => ?_, ?_⟩
        · obtain ⟨⟨q0, q1, q2, q3, q4, q5, q6⟩, _⟩ := bR4.below hq
          unfold Oper.quietAt
          simp [go_sem, q0, q1, q2, q3, q4, q5, q6, Oper.quietUpon]
        simp only [Act.put, List.setIfInBounds_toArray, List.set_cons_zero, List.set_cons_succ]
        go_big_quiet_on
        go_big_quiet_want
        refine ⟨.agg #[.int .i64 p, .int .i64 c, .int .i64 n, .int .i64 b, .int .i64 r, .int .i64 f, .int .i64 g], fun wq hq => ?_, ?_⟩
        · obtain ⟨⟨q0, q1, q2, q3, q4, q5, q6⟩, _⟩ := bR4.below hq
          unfold Oper.quietAt
          simp [go_sem, q0, q1, q2, q3, q4, q5, q6, Oper.quietUpon]
        simp only [Act.put, List.setIfInBounds_toArray, List.set_cons_zero, List.set_cons_succ]
        go_big_quiet_on
        go_big_quiet_want
        go_big_quiet_op
        refine ⟨.int .i64 (j : Int), fun wq hq => Sc.call HAG.out hq, ?_⟩
        go_big_quiet_on
        iterate 1 (first | go_big_quiet_skip | (go_big_quiet_want; go_big_quiet_op; first | go_big_quiet_on | (refine ⟨_, fun _ _ => rfl, ?_⟩; go_big_quiet_on)))
        go_big_quiet_want
        go_big_quiet_op
        refine ⟨.bool true, fun wq hq => (HFY1.out wq hq).mono fun _ _ ⟨he, hb⟩ => ⟨he, Below.step hq hb⟩, ?_⟩
        go_big_quiet_on
        iterate 5 (first | go_big_quiet_skip | (go_big_quiet_want; go_big_quiet_op; first | go_big_quiet_on | (refine ⟨_, fun _ _ => rfl, ?_⟩; go_big_quiet_on)))
        iterate 10 (first | go_big_quiet_skip | (go_big_quiet_want; go_big_quiet_op; first | go_big_quiet_on | (refine ⟨_, fun _ _ => rfl, ?_⟩; go_big_quiet_on)))
        refine wpQuiet_nil ?_
        intro w4 hS4
        go_wp2_with fail
        go_ret
        exact ⟨rfl, Below.step hB3 hS4⟩
theorem walk (a0_0 a0_1 a0_2 a0_3 a0_4 a0_5 a0_6 : Int) (a1 : Int) (w : World) (_ : (Lit.int .i64 a0_0).wf = true) (_ : (Lit.int .i64 a0_1).wf = true) (_ : (Lit.int .i64 a0_2).wf = true) (_ : (Lit.int .i64 a0_3).wf = true) (_ : (Lit.int .i64 a0_4).wf = true) (_ : (Lit.int .i64 a0_5).wf = true) (_ : (Lit.int .i64 a0_6).wf = true) (w1 : (Lit.int .u8 a1).wf = true) :
    Calls Try.prog 7 #[.agg #[.int .i64 a0_0, .int .i64 a0_1, .int .i64 a0_2, .int .i64 a0_3, .int .i64 a0_4, .int .i64 a0_5, .int .i64 a0_6], .int .u8 a1] w fun e w' => e = .returned (.bool true) ∧ Below w.heap.size w w' := by
  by_cases h : (1 ≤ a0_0 ∧ a0_0 ≤ 6) ∧ (1 ≤ a0_1 ∧ a0_1 ≤ 4) ∧ (1 ≤ a0_2 ∧ a0_2 ≤ 3) ∧ (1 ≤ a0_3 ∧ a0_3 ≤ 4) ∧ (0 ≤ a0_4 ∧ a0_4 ≤ 4) ∧ (1 ≤ a0_5 ∧ a0_5 ≤ 4) ∧ (1 ≤ a0_6 ∧ a0_6 ≤ 15)
  · obtain ⟨hp, hc, hn, hb, hr, hf, hg⟩ := h
    have hx : 0 ≤ a1 ∧ a1 ≤ 255 := by have h := bounds_u8 w1; omega
    have hnb := mul12 hn hb
    have hT : a1.tmod 20 = a1 % 20 := Int.tmod_eq_emod_of_nonneg hx.1
    exact good _ _ _ _ _ _ _ a1 (a0_0 + 2 * (a0_2 * a0_3)).toNat (a1 % 20).toNat w hp hc hn hb hr hf hg (by omega) hx (by rw [hT]; omega) (by omega)
  · exact bad _ _ _ _ _ _ _ a1 w h
end Go.Proofs.Ytdlgpbmeeiakdaa.planRounds

/-
  The walk of CellWords.
-/
import Derived.Test.YtgeognijglahfaaRows
import Derived.WalkKit
import Derived.ProofKit
import Derived.OpenShut
import Derived.ShutString
import Derived.Below
import Derived.Outline
import Derived.WalkLawsBesides
import Derived.WalkSpells
import Derived.Handy
import Derived.Deep.QuietTactic
import Derived.BigQuiet
import Derived.RegionTactic
import Derived.ChangeAlike
import Derived.Lib.Hide
import Derived.Laws.Rows
import Derived.Laws.Tables
import Derived.Laws.CopyOwn
import Derived.Deep.WholeRow
import Derived.Deep.LoopGhost
import Derived.Laws.BitsAllLaws
import Derived.Laws.BitsLemmas
import Derived.IntWalk
import Derived.Test.YtgeognijglahfaaKit
import Derived.Test.YtgeognijglahfaaLay
import Derived.Test.YtgeognijglahfaaAny
import Derived.Test.YtgeognijglahfaaGet
import Derived.Test.YtgeognijglahfaaWithM
import Derived.Test.YtgeognijglahfaaIs
import Derived.Deep.RegionHeld3
import Derived.Deep.Cut
import Derived.Deep.CutRange
import Derived.Deep.DeepCutAuto
import Derived.Deep.CutBlock
import Derived.Deep.RegionLaw
import Derived.Test.YtgeognijglahfaaQuiet
import Derived.Test.YtgeognijglahfaaNumF
import Derived.Test.YtgeognijglahfaaWith
import Derived.Test.YtgeognijglahfaaWithM
import Derived.Test.YtgeognijglahfaaRefTwo
import Derived.Test.YtgeognijglahfaaAwakeB
import Derived.Test.YtgeognijglahfaaLayouts
import Derived.Test.YtgeognijglahfaaGive
import Derived.Test.YtgeognijglahfaaBox
import Derived.Test.YtgeognijglahfaaStates
import Derived.Test.YtgeognijglahfaaWords
import Derived.Test.YtgeognijglahfaaFlags
import Derived.Test.YtgeognijglahfaaHold
namespace Go.Proofs.Ytgeognijglahfaa.cellWords
open Go.ChangeShapes Go.WideShapes Go.ChangeAt Go.RowKit
theorem fld_word {n : Nat} {s z : Nat → Int} (hS : Steps n s) (hz : ∀ k, k < n → 0 ≤ z k ∧ z k < 2 ^ (s (k + 1) - s k).toNat) : ∀ k, k < n → fld s (word s z n) k = z k :=
  word_inj hS (fun k _ => fld_fit (n := n) (s := s) _ k) hz n (Nat.le_refl _) ((word_fld hS (word s z n) n (Nat.le_refl _)).trans (Nat.mod_eq_of_lt (word_lt hS hz n (Nat.le_refl _))))
theorem bounds_cz (k fl g l f : Int) (h0 : -9223372036854775808 ≤ k ∧ k ≤ 9223372036854775807) (h1 : 0 ≤ fl ∧ fl ≤ 1) (h2 : -9223372036854775808 ≤ g ∧ g ≤ 9223372036854775807) (h3 : -9223372036854775808 ≤ l ∧ l ≤ 9223372036854775807) (h4 : -9223372036854775808 ≤ f ∧ f ≤ 9223372036854775807) : ∀ j, j < 5 → -9223372036854775808 ≤ cz k fl g l f j ∧ cz k fl g l f j ≤ 9223372036854775807 := fun j hj => by
  match j, hj with
  | 0, _ => exact h0
  | 1, _ => exact ⟨by show _ ≤ fl; omega, by show fl ≤ _; omega⟩
  | 2, _ => exact h2
  | 3, _ => exact h3
  | 4, _ => exact h4
theorem word_two (k g l f : Int) (b : Bool) (h0 : -9223372036854775808 ≤ k ∧ k ≤ 9223372036854775807) (h2 : -9223372036854775808 ≤ g ∧ g ≤ 9223372036854775807) (h3 : -9223372036854775808 ≤ l ∧ l ≤ 9223372036854775807) (h4 : -9223372036854775808 ≤ f ∧ f ≤ 9223372036854775807) :
    (k ≤ 8 ∧ ∃ X : Nat, (∀ w, Calls Try.prog 23 #[.agg #[.int .i64 k, .bool b, .int .i64 g, .int .i64 l, .int .i64 f]] w fun e w' => e = .returned (.tuple #[.int .u64 (X : Int), .nilIface]) ∧ Below w.heap.size w w') ∧ (∀ w, Calls Try.prog 24 #[.agg #[.int .i64 k, .bool b, .int .i64 g, .int .i64 l, .int .i64 f]] w fun e w' => e = .returned (.tuple #[.int .u64 (X : Int), .int .i64 0]) ∧ Below w.heap.size w w') ∧ (∀ w, Calls Try.prog 25 #[.int .u64 (X : Int)] w fun e w' => e = .returned (.agg #[.int .i64 k, .bool b, .int .i64 g, .int .i64 l, .int .i64 f]) ∧ Below w.heap.size w w')) ∨
    (∃ j : Nat, (∀ w, Calls Try.prog 23 #[.agg #[.int .i64 k, .bool b, .int .i64 g, .int .i64 l, .int .i64 f]] w (PackBad j w)) ∧ (∀ w, Calls Try.prog 24 #[.agg #[.int .i64 k, .bool b, .int .i64 g, .int .i64 l, .int .i64 f]] w fun e w' => e = .returned (.tuple #[.int .u64 0, .int .i64 5]) ∧ Below w.heap.size w w')) := by
  by_cases h : 8 < k
  · exact .inr ⟨0, fun w => wordC_high k g l f b w h, fun w => rwordC_high k g l f b w h⟩
  have hk : k ≤ 8 := by omega
  cases b
  · have hb := bounds_cz k 0 g l f h0 (by decide) h2 h3 h4
    by_cases hf : FitsC (cz k 0 g l f)
    · have hl := word_lt shc_steps hf 5 (Nat.le_refl _)
      have hX : word shc (cz k 0 g l f) 5 < 18446744073709551616 := Nat.lt_of_lt_of_le hl (Nat.pow_le_pow_right (by decide) (by decide : (shc 5).toNat ≤ 64))
      have e := fld_word shc_steps hf
      refine .inl ⟨hk, word shc (cz k 0 g l f) 5, fun w => wordC_ok_false k g l f w hk hb hf, fun w => rwordC_ok_false k g l f w hk hb hf, fun w => ?_⟩
      have h9 := ofC_is (word shc (cz k 0 g l f) 5) hX w
      rw [e 0 (by decide), e 1 (by decide), e 2 (by decide), e 3 (by decide), e 4 (by decide)] at h9
      exact h9
    · obtain ⟨j, hj, h5, h6⟩ := least (fun j => 0 ≤ (cz k 0 g l f) j ∧ (cz k 0 g l f) j < 2 ^ (shc (j + 1) - shc j).toNat) 5 hf
      exact .inr ⟨j, fun w => wordC_bad_false k g l f w hk hb j hj h5 h6, fun w => rwordC_bad_false k g l f w hk hb j hj h5 h6⟩
  · have hb := bounds_cz k 1 g l f h0 (by decide) h2 h3 h4
    by_cases hf : FitsC (cz k 1 g l f)
    · have hl := word_lt shc_steps hf 5 (Nat.le_refl _)
      have hX : word shc (cz k 1 g l f) 5 < 18446744073709551616 := Nat.lt_of_lt_of_le hl (Nat.pow_le_pow_right (by decide) (by decide : (shc 5).toNat ≤ 64))
      have e := fld_word shc_steps hf
      refine .inl ⟨hk, word shc (cz k 1 g l f) 5, fun w => wordC_ok_true k g l f w hk hb hf, fun w => rwordC_ok_true k g l f w hk hb hf, fun w => ?_⟩
      have h9 := ofC_is (word shc (cz k 1 g l f) 5) hX w
      rw [e 0 (by decide), e 1 (by decide), e 2 (by decide), e 3 (by decide), e 4 (by decide)] at h9
      exact h9
    · obtain ⟨j, hj, h5, h6⟩ := least (fun j => 0 ≤ (cz k 1 g l f) j ∧ (cz k 1 g l f) j < 2 ^ (shc (j + 1) - shc j).toNat) 5 hf
      exact .inr ⟨j, fun w => wordC_bad_true k g l f w hk hb j hj h5 h6, fun w => rwordC_bad_true k g l f w hk hb j hj h5 h6⟩
theorem state_two (x : Nat) (hx : x < 18446744073709551616) : ∃ (a0 a2 a3 a4 : Int) (a1 : Bool), (∀ w, Calls Try.prog 25 #[.int .u64 (x : Int)] w fun e w' => e = .returned (.agg #[.int .i64 a0, .bool a1, .int .i64 a2, .int .i64 a3, .int .i64 a4]) ∧ Below w.heap.size w w') ∧ (∀ w, Calls Try.prog 26 #[.int .u64 (x : Int)] w fun e w' => e = .returned (.agg #[.int .i64 a0, .bool a1, .int .i64 a2, .int .i64 a3, .int .i64 a4]) ∧ Below w.heap.size w w') :=
  ⟨_, _, _, _, _, fun w => ofC_is x hx w, fun w => rofC_is x hx w⟩
set_option maxRecDepth 100000 in
set_option maxHeartbeats 4000000 in
theorem main_ok_L1 (g l f X Y a0 a2 a3 a4 : Int) (b a1 : Bool) (s : ByteArray) (w : World) 
   (hW : ∀ w, Calls Try.prog 23 #[.agg #[.int .i64 1, .bool b, .int .i64 g, .int .i64 l, .int .i64 f]] w fun e w' => e = .returned (.tuple #[.int .u64 Y, .nilIface]) ∧ Below w.heap.size w w') (hR : ∀ w, Calls Try.prog 24 #[.agg #[.int .i64 1, .bool b, .int .i64 g, .int .i64 l, .int .i64 f]] w fun e w' => e = .returned (.tuple #[.int .u64 Y, .int .i64 0]) ∧ Below w.heap.size w w') (hS : ∀ w, Calls Try.prog 25 #[.int .u64 Y] w fun e w' => e = .returned (.agg #[.int .i64 1, .bool b, .int .i64 g, .int .i64 l, .int .i64 f]) ∧ Below w.heap.size w w')
   (hA : ∀ w, Calls Try.prog 25 #[.int .u64 X] w fun e w' => e = .returned (.agg #[.int .i64 a0, .bool a1, .int .i64 a2, .int .i64 a3, .int .i64 a4]) ∧ Below w.heap.size w w') (hB : ∀ w, Calls Try.prog 26 #[.int .u64 X] w fun e w' => e = .returned (.agg #[.int .i64 a0, .bool a1, .int .i64 a2, .int .i64 a3, .int .i64 a4]) ∧ Below w.heap.size w w')
   (hK : ∀ w, Calls Try.prog 34 #[.agg #[.int .i64 1, .bool b, .int .i64 g, .int .i64 l, .int .i64 f]] w fun e w' => e = .returned (.string s) ∧ Below w.heap.size w w') (hN : ∀ w, Calls Try.prog 35 #[.int .i64 1] w fun e w' => e = .returned (.string s) ∧ Below w.heap.size w w') :
    Calls Try.prog 5 #[.agg #[.int .i64 1, .bool b, .int .i64 g, .int .i64 l, .int .i64 f], .int .u64 X] w fun e w' => e = .returned (.bool true) ∧ Below w.heap.size w w' := by
  have HW := Lib.hid hW
  have HR := Lib.hid hR
  have HA := Lib.hid hA
  have HB := Lib.hid hB
  have HK := Lib.hid hK
  have HN := Lib.hid hN
  have HS := Lib.hid hS
  clear hW hR hA hB hK hN hS
  have Hloose := Lib.hid (fun w => looseL1 g l f b w)
  have Hheld := Lib.hid (fun w => heldL1 g l f b w)
  have Hlive := Lib.hid (fun w => liveL1 g l f b w)
  have Hover := Lib.hid (fun w => overL1 g l f b w)
  have Hrloose := Lib.hid (fun w => rlooseL1 w)
  have Hrheld := Lib.hid (fun w => rheldL1 w)
  go_enter Try.func5, Try.ntmps5
  have bx0 := Box.new w 1 g l f b
  go_wp2_with fail
  refine (HW.out _).mono ?_
  rintro e w1 ⟨rfl, hb1⟩
  have bx1 := bx0.below hb1
  have hB1 : Below w.heap.size w w1 := Below.step (by go_grown) hb1
  clear hb1
  obtain ⟨⟨s0, s1, s2, s3, s4⟩, _, _⟩ := id bx1
  go_wp2_with fail
  refine (HR.out _).mono ?_
  rintro e w2 ⟨rfl, hb2⟩
  have bx2 := bx1.below hb2
  have hB2 : Below w.heap.size w w2 := Below.step hB1 hb2
  clear hb2
  clear s0 s1 s2 s3 s4
  go_wp2_with fail
  refine region_sc (by kernel_rfl) (by kernel_rfl) ?_
  iterate 5 (first | go_big_quiet_skip | (go_big_quiet_want; go_big_quiet_op; first | go_big_quiet_on | (refine ⟨_, fun _ _ => rfl, ?_⟩; go_big_quiet_on)))
  go_big_quiet_want
  go_big_quiet_op
  refine ⟨_, fun wq hq => Sc.call (fun w => num_nil w) hq, ?_⟩
  go_big_quiet_on
  iterate 8 (first | go_big_quiet_skip | (go_big_quiet_want; go_big_quiet_op; first | go_big_quiet_on | (refine ⟨_, fun _ _ => rfl, ?_⟩; go_big_quiet_on)))
  go_big_quiet_want
  go_big_quiet_op
  refine ⟨_, fun wq hq => Sc.call HS.out hq, ?_⟩
  go_big_quiet_on
  go_big_quiet_want
  refine ⟨.agg #[.int .i64 1, .bool b, .int .i64 g, .int .i64 l, .int .i64 f], fun wq hq => ?_, ?_⟩
  · obtain ⟨⟨q0, q1, q2, q3, q4⟩, _, _⟩ := Box.below bx2 hq
    unfold Oper.quietAt
    simp [go_sem, q0, q1, q2, q3, q4, Oper.quietUpon]
  simp only [Act.put, List.setIfInBounds_toArray, List.set_cons_zero, List.set_cons_succ]
  go_big_quiet_on
  iterate 5 (first | go_big_quiet_skip | (go_big_quiet_want; go_big_quiet_op; first | go_big_quiet_on | (refine ⟨_, fun _ _ => rfl, ?_⟩; go_big_quiet_on)))
  go_big_quiet_want
  go_big_quiet_op
  refine ⟨_, fun wq hq => Sc.call HA.out hq, ?_⟩
  go_big_quiet_on
  iterate 1 (first | go_big_quiet_skip | (go_big_quiet_want; go_big_quiet_op; first | go_big_quiet_on | (refine ⟨_, fun _ _ => rfl, ?_⟩; go_big_quiet_on)))
  go_big_quiet_want
  go_big_quiet_op
  refine ⟨_, fun wq hq => Sc.call HB.out hq, ?_⟩
  go_big_quiet_on
  iterate 2 (first | go_big_quiet_skip | (go_big_quiet_want; go_big_quiet_op; first | go_big_quiet_on | (refine ⟨_, fun _ _ => rfl, ?_⟩; go_big_quiet_on)))
  refine wpQuiet_nil ?_
  intro w3 hv
  have bx3 := Box.below bx2 hv
  have hB3 : Below w.heap.size w w3 := Below.step hB2 hv
  clear hv
  obtain ⟨⟨s0, s1, s2, s3, s4⟩, _, _⟩ := id bx3
  go_wp2_with fail
  refine (Hrloose.out _).mono ?_
  rintro e w4 ⟨rfl, hb4⟩
  have bx4 := Box.below bx3 hb4
  have hB4 : Below w.heap.size w w4 := Below.step hB3 hb4
  clear hb4 bx3 hB3
  clear s0 s1 s2 s3 s4
  obtain ⟨⟨s0, s1, s2, s3, s4⟩, _, _⟩ := id bx4
  go_wp2_with fail
  refine (Hrheld.out _).mono ?_
  rintro e w5 ⟨rfl, hb5⟩
  have bx5 := Box.below bx4 hb5
  have hB5 : Below w.heap.size w w5 := Below.step hB4 hb5
  clear hb5 bx4 hB4
  clear s0 s1 s2 s3 s4
  obtain ⟨⟨s0, s1, s2, s3, s4⟩, _, _⟩ := id bx5
  go_wp2_with fail
  refine ((fun w => awake06 w) _).mono ?_
  rintro e w6 ⟨rfl, hb6⟩
  have bx6 := Box.below bx5 hb6
  have hB6 : Below w.heap.size w w6 := Below.step hB5 hb6
  clear hb6 bx5 hB5
  clear s0 s1 s2 s3 s4
  obtain ⟨⟨s0, s1, s2, s3, s4⟩, _, _⟩ := id bx6
  go_wp2_with fail
  refine (Hloose.out _).mono ?_
  rintro e w7 ⟨rfl, hb7⟩
  have bx7 := Box.below bx6 hb7
  have hB7 : Below w.heap.size w w7 := Below.step hB6 hb7
  clear hb7 bx6 hB6
  clear s0 s1 s2 s3 s4
  obtain ⟨⟨s0, s1, s2, s3, s4⟩, _, _⟩ := id bx7
  go_wp2_with fail
  refine (Hheld.out _).mono ?_
  rintro e w8 ⟨rfl, hb8⟩
  have bx8 := Box.below bx7 hb8
  have hB8 : Below w.heap.size w w8 := Below.step hB7 hb8
  clear hb8 bx7 hB7
  clear s0 s1 s2 s3 s4
  obtain ⟨⟨s0, s1, s2, s3, s4⟩, _, _⟩ := id bx8
  go_wp2_with fail
  refine (Hlive.out _).mono ?_
  rintro e w9 ⟨rfl, hb9⟩
  have bx9 := Box.below bx8 hb9
  have hB9 : Below w.heap.size w w9 := Below.step hB8 hb9
  clear hb9 bx8 hB8
  clear s0 s1 s2 s3 s4
  obtain ⟨⟨s0, s1, s2, s3, s4⟩, _, _⟩ := id bx9
  go_wp2_with fail
  refine (Hover.out _).mono ?_
  rintro e w10 ⟨rfl, hb10⟩
  have bx10 := Box.below bx9 hb10
  have hB10 : Below w.heap.size w w10 := Below.step hB9 hb10
  clear hb10 bx9 hB9
  clear s0 s1 s2 s3 s4
  obtain ⟨⟨s0, s1, s2, s3, s4⟩, _, _⟩ := id bx10
  go_wp2_with fail
  refine (HK.out _).mono ?_
  rintro e w11 ⟨rfl, hb11⟩
  have bx11 := Box.below bx10 hb11
  have hB11 : Below w.heap.size w w11 := Below.step hB10 hb11
  clear hb11 bx10 hB10
  clear s0 s1 s2 s3 s4
  obtain ⟨⟨s0, s1, s2, s3, s4⟩, _, _⟩ := id bx11
  go_wp2_with fail
  refine (HN.out _).mono ?_
  rintro e w12 ⟨rfl, hb12⟩
  have bx12 := Box.below bx11 hb12
  have hB12 : Below w.heap.size w w12 := Below.step hB11 hb12
  clear hb12 bx11 hB11
  clear s0 s1 s2 s3 s4
  obtain ⟨⟨s0, s1, s2, s3, s4⟩, _, _⟩ := id bx12
  go_wp2
  go_ret
  exact ⟨rfl, hB12⟩
set_option maxRecDepth 100000 in
set_option maxHeartbeats 4000000 in
theorem main_ok_L2 (g l f X Y a0 a2 a3 a4 : Int) (b a1 : Bool) (s : ByteArray) (w : World) 
   (hW : ∀ w, Calls Try.prog 23 #[.agg #[.int .i64 2, .bool b, .int .i64 g, .int .i64 l, .int .i64 f]] w fun e w' => e = .returned (.tuple #[.int .u64 Y, .nilIface]) ∧ Below w.heap.size w w') (hR : ∀ w, Calls Try.prog 24 #[.agg #[.int .i64 2, .bool b, .int .i64 g, .int .i64 l, .int .i64 f]] w fun e w' => e = .returned (.tuple #[.int .u64 Y, .int .i64 0]) ∧ Below w.heap.size w w') (hS : ∀ w, Calls Try.prog 25 #[.int .u64 Y] w fun e w' => e = .returned (.agg #[.int .i64 2, .bool b, .int .i64 g, .int .i64 l, .int .i64 f]) ∧ Below w.heap.size w w')
   (hA : ∀ w, Calls Try.prog 25 #[.int .u64 X] w fun e w' => e = .returned (.agg #[.int .i64 a0, .bool a1, .int .i64 a2, .int .i64 a3, .int .i64 a4]) ∧ Below w.heap.size w w') (hB : ∀ w, Calls Try.prog 26 #[.int .u64 X] w fun e w' => e = .returned (.agg #[.int .i64 a0, .bool a1, .int .i64 a2, .int .i64 a3, .int .i64 a4]) ∧ Below w.heap.size w w')
   (hK : ∀ w, Calls Try.prog 34 #[.agg #[.int .i64 2, .bool b, .int .i64 g, .int .i64 l, .int .i64 f]] w fun e w' => e = .returned (.string s) ∧ Below w.heap.size w w') (hN : ∀ w, Calls Try.prog 35 #[.int .i64 2] w fun e w' => e = .returned (.string s) ∧ Below w.heap.size w w') :
    Calls Try.prog 5 #[.agg #[.int .i64 2, .bool b, .int .i64 g, .int .i64 l, .int .i64 f], .int .u64 X] w fun e w' => e = .returned (.bool true) ∧ Below w.heap.size w w' := by
  have HW := Lib.hid hW
  have HR := Lib.hid hR
  have HA := Lib.hid hA
  have HB := Lib.hid hB
  have HK := Lib.hid hK
  have HN := Lib.hid hN
  have HS := Lib.hid hS
  clear hW hR hA hB hK hN hS
  have Hloose := Lib.hid (fun w => looseL2 g l f b w)
  have Hheld := Lib.hid (fun w => heldL2 g l f b w)
  have Hlive := Lib.hid (fun w => liveL2 g l f b w)
  have Hover := Lib.hid (fun w => overL2 g l f b w)
  have Hrloose := Lib.hid (fun w => rlooseL2 w)
  have Hrheld := Lib.hid (fun w => rheldL2 w)
  go_enter Try.func5, Try.ntmps5
  have bx0 := Box.new w 2 g l f b
  go_wp2_with fail
  refine (HW.out _).mono ?_
  rintro e w1 ⟨rfl, hb1⟩
  have bx1 := bx0.below hb1
  have hB1 : Below w.heap.size w w1 := Below.step (by go_grown) hb1
  clear hb1
  obtain ⟨⟨s0, s1, s2, s3, s4⟩, _, _⟩ := id bx1
  go_wp2_with fail
  refine (HR.out _).mono ?_
  rintro e w2 ⟨rfl, hb2⟩
  have bx2 := bx1.below hb2
  have hB2 : Below w.heap.size w w2 := Below.step hB1 hb2
  clear hb2
  clear s0 s1 s2 s3 s4
  go_wp2_with fail
  refine region_sc (by kernel_rfl) (by kernel_rfl) ?_
  iterate 5 (first | go_big_quiet_skip | (go_big_quiet_want; go_big_quiet_op; first | go_big_quiet_on | (refine ⟨_, fun _ _ => rfl, ?_⟩; go_big_quiet_on)))
  go_big_quiet_want
  go_big_quiet_op
  refine ⟨_, fun wq hq => Sc.call (fun w => num_nil w) hq, ?_⟩
  go_big_quiet_on
  iterate 8 (first | go_big_quiet_skip | (go_big_quiet_want; go_big_quiet_op; first | go_big_quiet_on | (refine ⟨_, fun _ _ => rfl, ?_⟩; go_big_quiet_on)))
  go_big_quiet_want
  go_big_quiet_op
  refine ⟨_, fun wq hq => Sc.call HS.out hq, ?_⟩
  go_big_quiet_on
  go_big_quiet_want
  refine ⟨.agg #[.int .i64 2, .bool b, .int .i64 g, .int .i64 l, .int .i64 f], fun wq hq => ?_, ?_⟩
  · obtain ⟨⟨q0, q1, q2, q3, q4⟩, _, _⟩ := Box.below bx2 hq
    unfold Oper.quietAt
    simp [go_sem, q0, q1, q2, q3, q4, Oper.quietUpon]
  simp only [Act.put, List.setIfInBounds_toArray, List.set_cons_zero, List.set_cons_succ]
  go_big_quiet_on
  iterate 5 (first | go_big_quiet_skip | (go_big_quiet_want; go_big_quiet_op; first | go_big_quiet_on | (refine ⟨_, fun _ _ => rfl, ?_⟩; go_big_quiet_on)))
  go_big_quiet_want
  go_big_quiet_op
  refine ⟨_, fun wq hq => Sc.call HA.out hq, ?_⟩
  go_big_quiet_on
  iterate 1 (first | go_big_quiet_skip | (go_big_quiet_want; go_big_quiet_op; first | go_big_quiet_on | (refine ⟨_, fun _ _ => rfl, ?_⟩; go_big_quiet_on)))
  go_big_quiet_want
  go_big_quiet_op
  refine ⟨_, fun wq hq => Sc.call HB.out hq, ?_⟩
  go_big_quiet_on
  iterate 2 (first | go_big_quiet_skip | (go_big_quiet_want; go_big_quiet_op; first | go_big_quiet_on | (refine ⟨_, fun _ _ => rfl, ?_⟩; go_big_quiet_on)))
  refine wpQuiet_nil ?_
  intro w3 hv
  have bx3 := Box.below bx2 hv
  have hB3 : Below w.heap.size w w3 := Below.step hB2 hv
  clear hv
  obtain ⟨⟨s0, s1, s2, s3, s4⟩, _, _⟩ := id bx3
  go_wp2_with fail
  refine (Hrloose.out _).mono ?_
  rintro e w4 ⟨rfl, hb4⟩
  have bx4 := Box.below bx3 hb4
  have hB4 : Below w.heap.size w w4 := Below.step hB3 hb4
  clear hb4 bx3 hB3
  clear s0 s1 s2 s3 s4
  obtain ⟨⟨s0, s1, s2, s3, s4⟩, _, _⟩ := id bx4
  go_wp2_with fail
  refine (Hrheld.out _).mono ?_
  rintro e w5 ⟨rfl, hb5⟩
  have bx5 := Box.below bx4 hb5
  have hB5 : Below w.heap.size w w5 := Below.step hB4 hb5
  clear hb5 bx4 hB4
  clear s0 s1 s2 s3 s4
  obtain ⟨⟨s0, s1, s2, s3, s4⟩, _, _⟩ := id bx5
  go_wp2_with fail
  refine ((fun w => awake06 w) _).mono ?_
  rintro e w6 ⟨rfl, hb6⟩
  have bx6 := Box.below bx5 hb6
  have hB6 : Below w.heap.size w w6 := Below.step hB5 hb6
  clear hb6 bx5 hB5
  clear s0 s1 s2 s3 s4
  obtain ⟨⟨s0, s1, s2, s3, s4⟩, _, _⟩ := id bx6
  go_wp2_with fail
  refine (Hloose.out _).mono ?_
  rintro e w7 ⟨rfl, hb7⟩
  have bx7 := Box.below bx6 hb7
  have hB7 : Below w.heap.size w w7 := Below.step hB6 hb7
  clear hb7 bx6 hB6
  clear s0 s1 s2 s3 s4
  obtain ⟨⟨s0, s1, s2, s3, s4⟩, _, _⟩ := id bx7
  go_wp2_with fail
  refine (Hheld.out _).mono ?_
  rintro e w8 ⟨rfl, hb8⟩
  have bx8 := Box.below bx7 hb8
  have hB8 : Below w.heap.size w w8 := Below.step hB7 hb8
  clear hb8 bx7 hB7
  clear s0 s1 s2 s3 s4
  obtain ⟨⟨s0, s1, s2, s3, s4⟩, _, _⟩ := id bx8
  go_wp2_with fail
  refine (Hlive.out _).mono ?_
  rintro e w9 ⟨rfl, hb9⟩
  have bx9 := Box.below bx8 hb9
  have hB9 : Below w.heap.size w w9 := Below.step hB8 hb9
  clear hb9 bx8 hB8
  clear s0 s1 s2 s3 s4
  obtain ⟨⟨s0, s1, s2, s3, s4⟩, _, _⟩ := id bx9
  go_wp2_with fail
  refine (Hover.out _).mono ?_
  rintro e w10 ⟨rfl, hb10⟩
  have bx10 := Box.below bx9 hb10
  have hB10 : Below w.heap.size w w10 := Below.step hB9 hb10
  clear hb10 bx9 hB9
  clear s0 s1 s2 s3 s4
  obtain ⟨⟨s0, s1, s2, s3, s4⟩, _, _⟩ := id bx10
  go_wp2_with fail
  refine (HK.out _).mono ?_
  rintro e w11 ⟨rfl, hb11⟩
  have bx11 := Box.below bx10 hb11
  have hB11 : Below w.heap.size w w11 := Below.step hB10 hb11
  clear hb11 bx10 hB10
  clear s0 s1 s2 s3 s4
  obtain ⟨⟨s0, s1, s2, s3, s4⟩, _, _⟩ := id bx11
  go_wp2_with fail
  refine (HN.out _).mono ?_
  rintro e w12 ⟨rfl, hb12⟩
  have bx12 := Box.below bx11 hb12
  have hB12 : Below w.heap.size w w12 := Below.step hB11 hb12
  clear hb12 bx11 hB11
  clear s0 s1 s2 s3 s4
  obtain ⟨⟨s0, s1, s2, s3, s4⟩, _, _⟩ := id bx12
  go_wp2
  go_ret
  exact ⟨rfl, hB12⟩
set_option maxRecDepth 100000 in
set_option maxHeartbeats 4000000 in
theorem main_ok_H3 (g l f X Y a0 a2 a3 a4 : Int) (b a1 : Bool) (s : ByteArray) (w : World) 
   (hW : ∀ w, Calls Try.prog 23 #[.agg #[.int .i64 3, .bool b, .int .i64 g, .int .i64 l, .int .i64 f]] w fun e w' => e = .returned (.tuple #[.int .u64 Y, .nilIface]) ∧ Below w.heap.size w w') (hR : ∀ w, Calls Try.prog 24 #[.agg #[.int .i64 3, .bool b, .int .i64 g, .int .i64 l, .int .i64 f]] w fun e w' => e = .returned (.tuple #[.int .u64 Y, .int .i64 0]) ∧ Below w.heap.size w w') (hS : ∀ w, Calls Try.prog 25 #[.int .u64 Y] w fun e w' => e = .returned (.agg #[.int .i64 3, .bool b, .int .i64 g, .int .i64 l, .int .i64 f]) ∧ Below w.heap.size w w')
   (hA : ∀ w, Calls Try.prog 25 #[.int .u64 X] w fun e w' => e = .returned (.agg #[.int .i64 a0, .bool a1, .int .i64 a2, .int .i64 a3, .int .i64 a4]) ∧ Below w.heap.size w w') (hB : ∀ w, Calls Try.prog 26 #[.int .u64 X] w fun e w' => e = .returned (.agg #[.int .i64 a0, .bool a1, .int .i64 a2, .int .i64 a3, .int .i64 a4]) ∧ Below w.heap.size w w')
   (hK : ∀ w, Calls Try.prog 34 #[.agg #[.int .i64 3, .bool b, .int .i64 g, .int .i64 l, .int .i64 f]] w fun e w' => e = .returned (.string s) ∧ Below w.heap.size w w') (hN : ∀ w, Calls Try.prog 35 #[.int .i64 3] w fun e w' => e = .returned (.string s) ∧ Below w.heap.size w w') :
    Calls Try.prog 5 #[.agg #[.int .i64 3, .bool b, .int .i64 g, .int .i64 l, .int .i64 f], .int .u64 X] w fun e w' => e = .returned (.bool true) ∧ Below w.heap.size w w' := by
  have HW := Lib.hid hW
  have HR := Lib.hid hR
  have HA := Lib.hid hA
  have HB := Lib.hid hB
  have HK := Lib.hid hK
  have HN := Lib.hid hN
  have HS := Lib.hid hS
  clear hW hR hA hB hK hN hS
  have Hloose := Lib.hid (fun w => looseH3 g l f b w)
  have Hheld := Lib.hid (fun w => heldH3 g l f b w)
  have Hlive := Lib.hid (fun w => liveH3 g l f b w)
  have Hover := Lib.hid (fun w => overH3 g l f b w)
  have Hrloose := Lib.hid (fun w => rlooseH3 w)
  have Hrheld := Lib.hid (fun w => rheldH3 w)
  go_enter Try.func5, Try.ntmps5
  have bx0 := Box.new w 3 g l f b
  go_wp2_with fail
  refine (HW.out _).mono ?_
  rintro e w1 ⟨rfl, hb1⟩
  have bx1 := bx0.below hb1
  have hB1 : Below w.heap.size w w1 := Below.step (by go_grown) hb1
  clear hb1
  obtain ⟨⟨s0, s1, s2, s3, s4⟩, _, _⟩ := id bx1
  go_wp2_with fail
  refine (HR.out _).mono ?_
  rintro e w2 ⟨rfl, hb2⟩
  have bx2 := bx1.below hb2
  have hB2 : Below w.heap.size w w2 := Below.step hB1 hb2
  clear hb2
  clear s0 s1 s2 s3 s4
  go_wp2_with fail
  refine region_sc (by kernel_rfl) (by kernel_rfl) ?_
  iterate 5 (first | go_big_quiet_skip | (go_big_quiet_want; go_big_quiet_op; first | go_big_quiet_on | (refine ⟨_, fun _ _ => rfl, ?_⟩; go_big_quiet_on)))
  go_big_quiet_want
  go_big_quiet_op
  refine ⟨_, fun wq hq => Sc.call (fun w => num_nil w) hq, ?_⟩
  go_big_quiet_on
  iterate 8 (first | go_big_quiet_skip | (go_big_quiet_want; go_big_quiet_op; first | go_big_quiet_on | (refine ⟨_, fun _ _ => rfl, ?_⟩; go_big_quiet_on)))
  go_big_quiet_want
  go_big_quiet_op
  refine ⟨_, fun wq hq => Sc.call HS.out hq, ?_⟩
  go_big_quiet_on
  go_big_quiet_want
  refine ⟨.agg #[.int .i64 3, .bool b, .int .i64 g, .int .i64 l, .int .i64 f], fun wq hq => ?_, ?_⟩
  · obtain ⟨⟨q0, q1, q2, q3, q4⟩, _, _⟩ := Box.below bx2 hq
    unfold Oper.quietAt
    simp [go_sem, q0, q1, q2, q3, q4, Oper.quietUpon]
  simp only [Act.put, List.setIfInBounds_toArray, List.set_cons_zero, List.set_cons_succ]
  go_big_quiet_on
  iterate 5 (first | go_big_quiet_skip | (go_big_quiet_want; go_big_quiet_op; first | go_big_quiet_on | (refine ⟨_, fun _ _ => rfl, ?_⟩; go_big_quiet_on)))
  go_big_quiet_want
  go_big_quiet_op
  refine ⟨_, fun wq hq => Sc.call HA.out hq, ?_⟩
  go_big_quiet_on
  iterate 1 (first | go_big_quiet_skip | (go_big_quiet_want; go_big_quiet_op; first | go_big_quiet_on | (refine ⟨_, fun _ _ => rfl, ?_⟩; go_big_quiet_on)))
  go_big_quiet_want
  go_big_quiet_op
  refine ⟨_, fun wq hq => Sc.call HB.out hq, ?_⟩
  go_big_quiet_on
  iterate 2 (first | go_big_quiet_skip | (go_big_quiet_want; go_big_quiet_op; first | go_big_quiet_on | (refine ⟨_, fun _ _ => rfl, ?_⟩; go_big_quiet_on)))
  refine wpQuiet_nil ?_
  intro w3 hv
  have bx3 := Box.below bx2 hv
  have hB3 : Below w.heap.size w w3 := Below.step hB2 hv
  clear hv
  obtain ⟨⟨s0, s1, s2, s3, s4⟩, _, _⟩ := id bx3
  go_wp2_with fail
  refine (Hrloose.out _).mono ?_
  rintro e w4 ⟨rfl, hb4⟩
  have bx4 := Box.below bx3 hb4
  have hB4 : Below w.heap.size w w4 := Below.step hB3 hb4
  clear hb4 bx3 hB3
  clear s0 s1 s2 s3 s4
  obtain ⟨⟨s0, s1, s2, s3, s4⟩, _, _⟩ := id bx4
  go_wp2_with fail
  refine (Hrheld.out _).mono ?_
  rintro e w5 ⟨rfl, hb5⟩
  have bx5 := Box.below bx4 hb5
  have hB5 : Below w.heap.size w w5 := Below.step hB4 hb5
  clear hb5 bx4 hB4
  clear s0 s1 s2 s3 s4
  obtain ⟨⟨s0, s1, s2, s3, s4⟩, _, _⟩ := id bx5
  go_wp2_with fail
  refine ((fun w => awake06 w) _).mono ?_
  rintro e w6 ⟨rfl, hb6⟩
  have bx6 := Box.below bx5 hb6
  have hB6 : Below w.heap.size w w6 := Below.step hB5 hb6
  clear hb6 bx5 hB5
  clear s0 s1 s2 s3 s4
  obtain ⟨⟨s0, s1, s2, s3, s4⟩, _, _⟩ := id bx6
  go_wp2_with fail
  refine (Hloose.out _).mono ?_
  rintro e w7 ⟨rfl, hb7⟩
  have bx7 := Box.below bx6 hb7
  have hB7 : Below w.heap.size w w7 := Below.step hB6 hb7
  clear hb7 bx6 hB6
  clear s0 s1 s2 s3 s4
  obtain ⟨⟨s0, s1, s2, s3, s4⟩, _, _⟩ := id bx7
  go_wp2_with fail
  refine (Hheld.out _).mono ?_
  rintro e w8 ⟨rfl, hb8⟩
  have bx8 := Box.below bx7 hb8
  have hB8 : Below w.heap.size w w8 := Below.step hB7 hb8
  clear hb8 bx7 hB7
  clear s0 s1 s2 s3 s4
  obtain ⟨⟨s0, s1, s2, s3, s4⟩, _, _⟩ := id bx8
  go_wp2_with fail
  refine (Hlive.out _).mono ?_
  rintro e w9 ⟨rfl, hb9⟩
  have bx9 := Box.below bx8 hb9
  have hB9 : Below w.heap.size w w9 := Below.step hB8 hb9
  clear hb9 bx8 hB8
  clear s0 s1 s2 s3 s4
  obtain ⟨⟨s0, s1, s2, s3, s4⟩, _, _⟩ := id bx9
  go_wp2_with fail
  refine (Hover.out _).mono ?_
  rintro e w10 ⟨rfl, hb10⟩
  have bx10 := Box.below bx9 hb10
  have hB10 : Below w.heap.size w w10 := Below.step hB9 hb10
  clear hb10 bx9 hB9
  clear s0 s1 s2 s3 s4
  obtain ⟨⟨s0, s1, s2, s3, s4⟩, _, _⟩ := id bx10
  go_wp2_with fail
  refine (HK.out _).mono ?_
  rintro e w11 ⟨rfl, hb11⟩
  have bx11 := Box.below bx10 hb11
  have hB11 : Below w.heap.size w w11 := Below.step hB10 hb11
  clear hb11 bx10 hB10
  clear s0 s1 s2 s3 s4
  obtain ⟨⟨s0, s1, s2, s3, s4⟩, _, _⟩ := id bx11
  go_wp2_with fail
  refine (HN.out _).mono ?_
  rintro e w12 ⟨rfl, hb12⟩
  have bx12 := Box.below bx11 hb12
  have hB12 : Below w.heap.size w w12 := Below.step hB11 hb12
  clear hb12 bx11 hB11
  clear s0 s1 s2 s3 s4
  obtain ⟨⟨s0, s1, s2, s3, s4⟩, _, _⟩ := id bx12
  go_wp2
  go_ret
  exact ⟨rfl, hB12⟩
set_option maxRecDepth 100000 in
set_option maxHeartbeats 4000000 in
theorem main_ok_H4 (g l f X Y a0 a2 a3 a4 : Int) (b a1 : Bool) (s : ByteArray) (w : World) 
   (hW : ∀ w, Calls Try.prog 23 #[.agg #[.int .i64 4, .bool b, .int .i64 g, .int .i64 l, .int .i64 f]] w fun e w' => e = .returned (.tuple #[.int .u64 Y, .nilIface]) ∧ Below w.heap.size w w') (hR : ∀ w, Calls Try.prog 24 #[.agg #[.int .i64 4, .bool b, .int .i64 g, .int .i64 l, .int .i64 f]] w fun e w' => e = .returned (.tuple #[.int .u64 Y, .int .i64 0]) ∧ Below w.heap.size w w') (hS : ∀ w, Calls Try.prog 25 #[.int .u64 Y] w fun e w' => e = .returned (.agg #[.int .i64 4, .bool b, .int .i64 g, .int .i64 l, .int .i64 f]) ∧ Below w.heap.size w w')
   (hA : ∀ w, Calls Try.prog 25 #[.int .u64 X] w fun e w' => e = .returned (.agg #[.int .i64 a0, .bool a1, .int .i64 a2, .int .i64 a3, .int .i64 a4]) ∧ Below w.heap.size w w') (hB : ∀ w, Calls Try.prog 26 #[.int .u64 X] w fun e w' => e = .returned (.agg #[.int .i64 a0, .bool a1, .int .i64 a2, .int .i64 a3, .int .i64 a4]) ∧ Below w.heap.size w w')
   (hK : ∀ w, Calls Try.prog 34 #[.agg #[.int .i64 4, .bool b, .int .i64 g, .int .i64 l, .int .i64 f]] w fun e w' => e = .returned (.string s) ∧ Below w.heap.size w w') (hN : ∀ w, Calls Try.prog 35 #[.int .i64 4] w fun e w' => e = .returned (.string s) ∧ Below w.heap.size w w') :
    Calls Try.prog 5 #[.agg #[.int .i64 4, .bool b, .int .i64 g, .int .i64 l, .int .i64 f], .int .u64 X] w fun e w' => e = .returned (.bool true) ∧ Below w.heap.size w w' := by
  have HW := Lib.hid hW
  have HR := Lib.hid hR
  have HA := Lib.hid hA
  have HB := Lib.hid hB
  have HK := Lib.hid hK
  have HN := Lib.hid hN
  have HS := Lib.hid hS
  clear hW hR hA hB hK hN hS
  have Hloose := Lib.hid (fun w => looseH4 g l f b w)
  have Hheld := Lib.hid (fun w => heldH4 g l f b w)
  have Hlive := Lib.hid (fun w => liveH4 g l f b w)
  have Hover := Lib.hid (fun w => overH4 g l f b w)
  have Hrloose := Lib.hid (fun w => rlooseH4 w)
  have Hrheld := Lib.hid (fun w => rheldH4 w)
  go_enter Try.func5, Try.ntmps5
  have bx0 := Box.new w 4 g l f b
  go_wp2_with fail
  refine (HW.out _).mono ?_
  rintro e w1 ⟨rfl, hb1⟩
  have bx1 := bx0.below hb1
  have hB1 : Below w.heap.size w w1 := Below.step (by go_grown) hb1
  clear hb1
  obtain ⟨⟨s0, s1, s2, s3, s4⟩, _, _⟩ := id bx1
  go_wp2_with fail
  refine (HR.out _).mono ?_
  rintro e w2 ⟨rfl, hb2⟩
  have bx2 := bx1.below hb2
  have hB2 : Below w.heap.size w w2 := Below.step hB1 hb2
  clear hb2
  clear s0 s1 s2 s3 s4
  go_wp2_with fail
  refine region_sc (by kernel_rfl) (by kernel_rfl) ?_
  iterate 5 (first | go_big_quiet_skip | (go_big_quiet_want; go_big_quiet_op; first | go_big_quiet_on | (refine ⟨_, fun _ _ => rfl, ?_⟩; go_big_quiet_on)))
  go_big_quiet_want
  go_big_quiet_op
  refine ⟨_, fun wq hq => Sc.call (fun w => num_nil w) hq, ?_⟩
  go_big_quiet_on
  iterate 8 (first | go_big_quiet_skip | (go_big_quiet_want; go_big_quiet_op; first | go_big_quiet_on | (refine ⟨_, fun _ _ => rfl, ?_⟩; go_big_quiet_on)))
  go_big_quiet_want
  go_big_quiet_op
  refine ⟨_, fun wq hq => Sc.call HS.out hq, ?_⟩
  go_big_quiet_on
  go_big_quiet_want
  refine ⟨.agg #[.int .i64 4, .bool b, .int .i64 g, .int .i64 l, .int .i64 f], fun wq hq => ?_, ?_⟩
  · obtain ⟨⟨q0, q1, q2, q3, q4⟩, _, _⟩ := Box.below bx2 hq
    unfold Oper.quietAt
    simp [go_sem, q0, q1, q2, q3, q4, Oper.quietUpon]
  simp only [Act.put, List.setIfInBounds_toArray, List.set_cons_zero, List.set_cons_succ]
  go_big_quiet_on
  iterate 5 (first | go_big_quiet_skip | (go_big_quiet_want; go_big_quiet_op; first | go_big_quiet_on | (refine ⟨_, fun _ _ => rfl, ?_⟩; go_big_quiet_on)))
  go_big_quiet_want
  go_big_quiet_op
  refine ⟨_, fun wq hq => Sc.call HA.out hq, ?_⟩
  go_big_quiet_on
  iterate 1 (first | go_big_quiet_skip | (go_big_quiet_want; go_big_quiet_op; first | go_big_quiet_on | (refine ⟨_, fun _ _ => rfl, ?_⟩; go_big_quiet_on)))
  go_big_quiet_want
  go_big_quiet_op
  refine ⟨_, fun wq hq => Sc.call HB.out hq, ?_⟩
  go_big_quiet_on
  iterate 2 (first | go_big_quiet_skip | (go_big_quiet_want; go_big_quiet_op; first | go_big_quiet_on | (refine ⟨_, fun _ _ => rfl, ?_⟩; go_big_quiet_on)))
  refine wpQuiet_nil ?_
  intro w3 hv
  have bx3 := Box.below bx2 hv
  have hB3 : Below w.heap.size w w3 := Below.step hB2 hv
  clear hv
  obtain ⟨⟨s0, s1, s2, s3, s4⟩, _, _⟩ := id bx3
  go_wp2_with fail
  refine (Hrloose.out _).mono ?_
  rintro e w4 ⟨rfl, hb4⟩
  have bx4 := Box.below bx3 hb4
  have hB4 : Below w.heap.size w w4 := Below.step hB3 hb4
  clear hb4 bx3 hB3
  clear s0 s1 s2 s3 s4
  obtain ⟨⟨s0, s1, s2, s3, s4⟩, _, _⟩ := id bx4
  go_wp2_with fail
  refine (Hrheld.out _).mono ?_
  rintro e w5 ⟨rfl, hb5⟩
  have bx5 := Box.below bx4 hb5
  have hB5 : Below w.heap.size w w5 := Below.step hB4 hb5
  clear hb5 bx4 hB4
  clear s0 s1 s2 s3 s4
  obtain ⟨⟨s0, s1, s2, s3, s4⟩, _, _⟩ := id bx5
  go_wp2_with fail
  refine ((fun w => awake06 w) _).mono ?_
  rintro e w6 ⟨rfl, hb6⟩
  have bx6 := Box.below bx5 hb6
  have hB6 : Below w.heap.size w w6 := Below.step hB5 hb6
  clear hb6 bx5 hB5
  clear s0 s1 s2 s3 s4
  obtain ⟨⟨s0, s1, s2, s3, s4⟩, _, _⟩ := id bx6
  go_wp2_with fail
  refine (Hloose.out _).mono ?_
  rintro e w7 ⟨rfl, hb7⟩
  have bx7 := Box.below bx6 hb7
  have hB7 : Below w.heap.size w w7 := Below.step hB6 hb7
  clear hb7 bx6 hB6
  clear s0 s1 s2 s3 s4
  obtain ⟨⟨s0, s1, s2, s3, s4⟩, _, _⟩ := id bx7
  go_wp2_with fail
  refine (Hheld.out _).mono ?_
  rintro e w8 ⟨rfl, hb8⟩
  have bx8 := Box.below bx7 hb8
  have hB8 : Below w.heap.size w w8 := Below.step hB7 hb8
  clear hb8 bx7 hB7
  clear s0 s1 s2 s3 s4
  obtain ⟨⟨s0, s1, s2, s3, s4⟩, _, _⟩ := id bx8
  go_wp2_with fail
  refine (Hlive.out _).mono ?_
  rintro e w9 ⟨rfl, hb9⟩
  have bx9 := Box.below bx8 hb9
  have hB9 : Below w.heap.size w w9 := Below.step hB8 hb9
  clear hb9 bx8 hB8
  clear s0 s1 s2 s3 s4
  obtain ⟨⟨s0, s1, s2, s3, s4⟩, _, _⟩ := id bx9
  go_wp2_with fail
  refine (Hover.out _).mono ?_
  rintro e w10 ⟨rfl, hb10⟩
  have bx10 := Box.below bx9 hb10
  have hB10 : Below w.heap.size w w10 := Below.step hB9 hb10
  clear hb10 bx9 hB9
  clear s0 s1 s2 s3 s4
  obtain ⟨⟨s0, s1, s2, s3, s4⟩, _, _⟩ := id bx10
  go_wp2_with fail
  refine (HK.out _).mono ?_
  rintro e w11 ⟨rfl, hb11⟩
  have bx11 := Box.below bx10 hb11
  have hB11 : Below w.heap.size w w11 := Below.step hB10 hb11
  clear hb11 bx10 hB10
  clear s0 s1 s2 s3 s4
  obtain ⟨⟨s0, s1, s2, s3, s4⟩, _, _⟩ := id bx11
  go_wp2_with fail
  refine (HN.out _).mono ?_
  rintro e w12 ⟨rfl, hb12⟩
  have bx12 := Box.below bx11 hb12
  have hB12 : Below w.heap.size w w12 := Below.step hB11 hb12
  clear hb12 bx11 hB11
  clear s0 s1 s2 s3 s4
  obtain ⟨⟨s0, s1, s2, s3, s4⟩, _, _⟩ := id bx12
  go_wp2
  go_ret
  exact ⟨rfl, hB12⟩
set_option maxRecDepth 100000 in
set_option maxHeartbeats 4000000 in
theorem main_ok_O (k g l f X Y a0 a2 a3 a4 : Int) (b a1 : Bool) (s : ByteArray) (w : World) (h1 : 5 ≤ k) (h2 : k ≤ 8)
   (hW : ∀ w, Calls Try.prog 23 #[.agg #[.int .i64 k, .bool b, .int .i64 g, .int .i64 l, .int .i64 f]] w fun e w' => e = .returned (.tuple #[.int .u64 Y, .nilIface]) ∧ Below w.heap.size w w') (hR : ∀ w, Calls Try.prog 24 #[.agg #[.int .i64 k, .bool b, .int .i64 g, .int .i64 l, .int .i64 f]] w fun e w' => e = .returned (.tuple #[.int .u64 Y, .int .i64 0]) ∧ Below w.heap.size w w') (hS : ∀ w, Calls Try.prog 25 #[.int .u64 Y] w fun e w' => e = .returned (.agg #[.int .i64 k, .bool b, .int .i64 g, .int .i64 l, .int .i64 f]) ∧ Below w.heap.size w w')
   (hA : ∀ w, Calls Try.prog 25 #[.int .u64 X] w fun e w' => e = .returned (.agg #[.int .i64 a0, .bool a1, .int .i64 a2, .int .i64 a3, .int .i64 a4]) ∧ Below w.heap.size w w') (hB : ∀ w, Calls Try.prog 26 #[.int .u64 X] w fun e w' => e = .returned (.agg #[.int .i64 a0, .bool a1, .int .i64 a2, .int .i64 a3, .int .i64 a4]) ∧ Below w.heap.size w w')
   (hK : ∀ w, Calls Try.prog 34 #[.agg #[.int .i64 k, .bool b, .int .i64 g, .int .i64 l, .int .i64 f]] w fun e w' => e = .returned (.string s) ∧ Below w.heap.size w w') (hN : ∀ w, Calls Try.prog 35 #[.int .i64 k] w fun e w' => e = .returned (.string s) ∧ Below w.heap.size w w') :
    Calls Try.prog 5 #[.agg #[.int .i64 k, .bool b, .int .i64 g, .int .i64 l, .int .i64 f], .int .u64 X] w fun e w' => e = .returned (.bool true) ∧ Below w.heap.size w w' := by
  have HW := Lib.hid hW
  have HR := Lib.hid hR
  have HA := Lib.hid hA
  have HB := Lib.hid hB
  have HK := Lib.hid hK
  have HN := Lib.hid hN
  have HS := Lib.hid hS
  clear hW hR hA hB hK hN hS
  have Hloose := Lib.hid (fun w => looseO k g l f b w h1 h2)
  have Hheld := Lib.hid (fun w => heldO k g l f b w h1 h2)
  have Hlive := Lib.hid (fun w => liveO k g l f b w h1 h2)
  have Hover := Lib.hid (fun w => overO k g l f b w h1 h2)
  have Hrloose := Lib.hid (fun w => rlooseO k w h1 h2)
  have Hrheld := Lib.hid (fun w => rheldO k w h1 h2)
  have hd1 : (5 : Int) ≤ k := h1
  go_enter Try.func5, Try.ntmps5
  have bx0 := Box.new w k g l f b
  go_wp2_with fail
  refine (HW.out _).mono ?_
  rintro e w1 ⟨rfl, hb1⟩
  have bx1 := bx0.below hb1
  have hB1 : Below w.heap.size w w1 := Below.step (by go_grown) hb1
  clear hb1
  obtain ⟨⟨s0, s1, s2, s3, s4⟩, _, _⟩ := id bx1
  go_wp2_with fail
  refine (HR.out _).mono ?_
  rintro e w2 ⟨rfl, hb2⟩
  have bx2 := bx1.below hb2
  have hB2 : Below w.heap.size w w2 := Below.step hB1 hb2
  clear hb2
  clear s0 s1 s2 s3 s4
  go_wp2_with fail
  refine region_sc (by kernel_rfl) (by kernel_rfl) ?_
  iterate 5 (first | go_big_quiet_skip | (go_big_quiet_want; go_big_quiet_op; first | go_big_quiet_on | (refine ⟨_, fun _ _ => rfl, ?_⟩; go_big_quiet_on)))
  go_big_quiet_want
  go_big_quiet_op
  refine ⟨_, fun wq hq => Sc.call (fun w => num_nil w) hq, ?_⟩
  go_big_quiet_on
  iterate 8 (first | go_big_quiet_skip | (go_big_quiet_want; go_big_quiet_op; first | go_big_quiet_on | (refine ⟨_, fun _ _ => rfl, ?_⟩; go_big_quiet_on)))
  go_big_quiet_want
  go_big_quiet_op
  refine ⟨_, fun wq hq => Sc.call HS.out hq, ?_⟩
  go_big_quiet_on
  go_big_quiet_want
  refine ⟨.agg #[.int .i64 k, .bool b, .int .i64 g, .int .i64 l, .int .i64 f], fun wq hq => ?_, ?_⟩
  · obtain ⟨⟨q0, q1, q2, q3, q4⟩, _, _⟩ := Box.below bx2 hq
    unfold Oper.quietAt
    simp [go_sem, q0, q1, q2, q3, q4, Oper.quietUpon]
  simp only [Act.put, List.setIfInBounds_toArray, List.set_cons_zero, List.set_cons_succ]
  go_big_quiet_on
  iterate 5 (first | go_big_quiet_skip | (go_big_quiet_want; go_big_quiet_op; first | go_big_quiet_on | (refine ⟨_, fun _ _ => rfl, ?_⟩; go_big_quiet_on)))
  go_big_quiet_want
  go_big_quiet_op
  refine ⟨_, fun wq hq => Sc.call HA.out hq, ?_⟩
  go_big_quiet_on
  iterate 1 (first | go_big_quiet_skip | (go_big_quiet_want; go_big_quiet_op; first | go_big_quiet_on | (refine ⟨_, fun _ _ => rfl, ?_⟩; go_big_quiet_on)))
  go_big_quiet_want
  go_big_quiet_op
  refine ⟨_, fun wq hq => Sc.call HB.out hq, ?_⟩
  go_big_quiet_on
  iterate 2 (first | go_big_quiet_skip | (go_big_quiet_want; go_big_quiet_op; first | go_big_quiet_on | (refine ⟨_, fun _ _ => rfl, ?_⟩; go_big_quiet_on)))
  refine wpQuiet_nil ?_
  intro w3 hv
  have bx3 := Box.below bx2 hv
  have hB3 : Below w.heap.size w w3 := Below.step hB2 hv
  clear hv
  obtain ⟨⟨s0, s1, s2, s3, s4⟩, _, _⟩ := id bx3
  go_wp2_with fail
  refine (Hrloose.out _).mono ?_
  rintro e w4 ⟨rfl, hb4⟩
  have bx4 := Box.below bx3 hb4
  have hB4 : Below w.heap.size w w4 := Below.step hB3 hb4
  clear hb4 bx3 hB3
  clear s0 s1 s2 s3 s4
  obtain ⟨⟨s0, s1, s2, s3, s4⟩, _, _⟩ := id bx4
  go_wp2_with fail
  refine (Hrheld.out _).mono ?_
  rintro e w5 ⟨rfl, hb5⟩
  have bx5 := Box.below bx4 hb5
  have hB5 : Below w.heap.size w w5 := Below.step hB4 hb5
  clear hb5 bx4 hB4
  clear s0 s1 s2 s3 s4
  obtain ⟨⟨s0, s1, s2, s3, s4⟩, _, _⟩ := id bx5
  go_wp2_with fail
  refine ((fun w => awake06 w) _).mono ?_
  rintro e w6 ⟨rfl, hb6⟩
  have bx6 := Box.below bx5 hb6
  have hB6 : Below w.heap.size w w6 := Below.step hB5 hb6
  clear hb6 bx5 hB5
  clear s0 s1 s2 s3 s4
  obtain ⟨⟨s0, s1, s2, s3, s4⟩, _, _⟩ := id bx6
  go_wp2_with fail
  refine (Hloose.out _).mono ?_
  rintro e w7 ⟨rfl, hb7⟩
  have bx7 := Box.below bx6 hb7
  have hB7 : Below w.heap.size w w7 := Below.step hB6 hb7
  clear hb7 bx6 hB6
  clear s0 s1 s2 s3 s4
  obtain ⟨⟨s0, s1, s2, s3, s4⟩, _, _⟩ := id bx7
  go_wp2_with fail
  refine (Hheld.out _).mono ?_
  rintro e w8 ⟨rfl, hb8⟩
  have bx8 := Box.below bx7 hb8
  have hB8 : Below w.heap.size w w8 := Below.step hB7 hb8
  clear hb8 bx7 hB7
  clear s0 s1 s2 s3 s4
  obtain ⟨⟨s0, s1, s2, s3, s4⟩, _, _⟩ := id bx8
  go_wp2_with fail
  refine (Hlive.out _).mono ?_
  rintro e w9 ⟨rfl, hb9⟩
  have bx9 := Box.below bx8 hb9
  have hB9 : Below w.heap.size w w9 := Below.step hB8 hb9
  clear hb9 bx8 hB8
  clear s0 s1 s2 s3 s4
  obtain ⟨⟨s0, s1, s2, s3, s4⟩, _, _⟩ := id bx9
  go_wp2_with fail
  refine (Hover.out _).mono ?_
  rintro e w10 ⟨rfl, hb10⟩
  have bx10 := Box.below bx9 hb10
  have hB10 : Below w.heap.size w w10 := Below.step hB9 hb10
  clear hb10 bx9 hB9
  clear s0 s1 s2 s3 s4
  obtain ⟨⟨s0, s1, s2, s3, s4⟩, _, _⟩ := id bx10
  go_wp2_with fail
  refine (HK.out _).mono ?_
  rintro e w11 ⟨rfl, hb11⟩
  have bx11 := Box.below bx10 hb11
  have hB11 : Below w.heap.size w w11 := Below.step hB10 hb11
  clear hb11 bx10 hB10
  clear s0 s1 s2 s3 s4
  obtain ⟨⟨s0, s1, s2, s3, s4⟩, _, _⟩ := id bx11
  go_wp2_with fail
  refine (HN.out _).mono ?_
  rintro e w12 ⟨rfl, hb12⟩
  have bx12 := Box.below bx11 hb12
  have hB12 : Below w.heap.size w w12 := Below.step hB11 hb12
  clear hb12 bx11 hB11
  clear s0 s1 s2 s3 s4
  obtain ⟨⟨s0, s1, s2, s3, s4⟩, _, _⟩ := id bx12
  go_wp2
  go_ret
  exact ⟨rfl, hB12⟩
set_option maxRecDepth 100000 in
set_option maxHeartbeats 4000000 in
theorem main_ok_N (k g l f X Y a0 a2 a3 a4 : Int) (b a1 : Bool) (s : ByteArray) (w : World) (h1 : k < 5) (n1 : k ≠ 1) (n2 : k ≠ 2) (n3 : k ≠ 3) (n4 : k ≠ 4)
   (hW : ∀ w, Calls Try.prog 23 #[.agg #[.int .i64 k, .bool b, .int .i64 g, .int .i64 l, .int .i64 f]] w fun e w' => e = .returned (.tuple #[.int .u64 Y, .nilIface]) ∧ Below w.heap.size w w') (hR : ∀ w, Calls Try.prog 24 #[.agg #[.int .i64 k, .bool b, .int .i64 g, .int .i64 l, .int .i64 f]] w fun e w' => e = .returned (.tuple #[.int .u64 Y, .int .i64 0]) ∧ Below w.heap.size w w') (hS : ∀ w, Calls Try.prog 25 #[.int .u64 Y] w fun e w' => e = .returned (.agg #[.int .i64 k, .bool b, .int .i64 g, .int .i64 l, .int .i64 f]) ∧ Below w.heap.size w w')
   (hA : ∀ w, Calls Try.prog 25 #[.int .u64 X] w fun e w' => e = .returned (.agg #[.int .i64 a0, .bool a1, .int .i64 a2, .int .i64 a3, .int .i64 a4]) ∧ Below w.heap.size w w') (hB : ∀ w, Calls Try.prog 26 #[.int .u64 X] w fun e w' => e = .returned (.agg #[.int .i64 a0, .bool a1, .int .i64 a2, .int .i64 a3, .int .i64 a4]) ∧ Below w.heap.size w w')
   (hK : ∀ w, Calls Try.prog 34 #[.agg #[.int .i64 k, .bool b, .int .i64 g, .int .i64 l, .int .i64 f]] w fun e w' => e = .returned (.string s) ∧ Below w.heap.size w w') (hN : ∀ w, Calls Try.prog 35 #[.int .i64 k] w fun e w' => e = .returned (.string s) ∧ Below w.heap.size w w') :
    Calls Try.prog 5 #[.agg #[.int .i64 k, .bool b, .int .i64 g, .int .i64 l, .int .i64 f], .int .u64 X] w fun e w' => e = .returned (.bool true) ∧ Below w.heap.size w w' := by
  have HW := Lib.hid hW
  have HR := Lib.hid hR
  have HA := Lib.hid hA
  have HB := Lib.hid hB
  have HK := Lib.hid hK
  have HN := Lib.hid hN
  have HS := Lib.hid hS
  clear hW hR hA hB hK hN hS
  have Hloose := Lib.hid (fun w => looseN k g l f b w h1 n1 n2 n3 n4)
  have Hheld := Lib.hid (fun w => heldN k g l f b w h1 n1 n2 n3 n4)
  have Hlive := Lib.hid (fun w => liveN k g l f b w h1 n1 n2 n3 n4)
  have Hover := Lib.hid (fun w => overN k g l f b w h1 n1 n2 n3 n4)
  have Hrloose := Lib.hid (fun w => rlooseN k w h1 n1 n2 n3 n4)
  have Hrheld := Lib.hid (fun w => rheldN k w h1 n1 n2 n3 n4)
  have hd : decide (5 ≤ k) = false := decide_eq_false (by omega)
  clear h1 n1 n2 n3 n4
  go_enter Try.func5, Try.ntmps5
  have bx0 := Box.new w k g l f b
  go_wp2_with fail
  refine (HW.out _).mono ?_
  rintro e w1 ⟨rfl, hb1⟩
  have bx1 := bx0.below hb1
  have hB1 : Below w.heap.size w w1 := Below.step (by go_grown) hb1
  clear hb1
  obtain ⟨⟨s0, s1, s2, s3, s4⟩, _, _⟩ := id bx1
  go_wp2_with fail
  refine (HR.out _).mono ?_
  rintro e w2 ⟨rfl, hb2⟩
  have bx2 := bx1.below hb2
  have hB2 : Below w.heap.size w w2 := Below.step hB1 hb2
  clear hb2
  clear s0 s1 s2 s3 s4
  go_wp2_with fail
  refine region_sc (by kernel_rfl) (by kernel_rfl) ?_
  iterate 5 (first | go_big_quiet_skip | (go_big_quiet_want; go_big_quiet_op; first | go_big_quiet_on | (refine ⟨_, fun _ _ => rfl, ?_⟩; go_big_quiet_on)))
  go_big_quiet_want
  go_big_quiet_op
  refine ⟨_, fun wq hq => Sc.call (fun w => num_nil w) hq, ?_⟩
  go_big_quiet_on
  iterate 8 (first | go_big_quiet_skip | (go_big_quiet_want; go_big_quiet_op; first | go_big_quiet_on | (refine ⟨_, fun _ _ => rfl, ?_⟩; go_big_quiet_on)))
  go_big_quiet_want
  go_big_quiet_op
  refine ⟨_, fun wq hq => Sc.call HS.out hq, ?_⟩
  go_big_quiet_on
  go_big_quiet_want
  refine ⟨.agg #[.int .i64 k, .bool b, .int .i64 g, .int .i64 l, .int .i64 f], fun wq hq => ?_, ?_⟩
  · obtain ⟨⟨q0, q1, q2, q3, q4⟩, _, _⟩ := Box.below bx2 hq
    unfold Oper.quietAt
    simp [go_sem, q0, q1, q2, q3, q4, Oper.quietUpon]
  simp only [Act.put, List.setIfInBounds_toArray, List.set_cons_zero, List.set_cons_succ]
  go_big_quiet_on
  iterate 5 (first | go_big_quiet_skip | (go_big_quiet_want; go_big_quiet_op; first | go_big_quiet_on | (refine ⟨_, fun _ _ => rfl, ?_⟩; go_big_quiet_on)))
  go_big_quiet_want
  go_big_quiet_op
  refine ⟨_, fun wq hq => Sc.call HA.out hq, ?_⟩
  go_big_quiet_on
  iterate 1 (first | go_big_quiet_skip | (go_big_quiet_want; go_big_quiet_op; first | go_big_quiet_on | (refine ⟨_, fun _ _ => rfl, ?_⟩; go_big_quiet_on)))
  go_big_quiet_want
  go_big_quiet_op
  refine ⟨_, fun wq hq => Sc.call HB.out hq, ?_⟩
  go_big_quiet_on
  iterate 2 (first | go_big_quiet_skip | (go_big_quiet_want; go_big_quiet_op; first | go_big_quiet_on | (refine ⟨_, fun _ _ => rfl, ?_⟩; go_big_quiet_on)))
  refine wpQuiet_nil ?_
  intro w3 hv
  have bx3 := Box.below bx2 hv
  have hB3 : Below w.heap.size w w3 := Below.step hB2 hv
  clear hv
  obtain ⟨⟨s0, s1, s2, s3, s4⟩, _, _⟩ := id bx3
  go_wp2_with fail
  refine (Hrloose.out _).mono ?_
  rintro e w4 ⟨rfl, hb4⟩
  have bx4 := Box.below bx3 hb4
  have hB4 : Below w.heap.size w w4 := Below.step hB3 hb4
  clear hb4 bx3 hB3
  clear s0 s1 s2 s3 s4
  obtain ⟨⟨s0, s1, s2, s3, s4⟩, _, _⟩ := id bx4
  go_wp2_with fail
  refine (Hrheld.out _).mono ?_
  rintro e w5 ⟨rfl, hb5⟩
  have bx5 := Box.below bx4 hb5
  have hB5 : Below w.heap.size w w5 := Below.step hB4 hb5
  clear hb5 bx4 hB4
  clear s0 s1 s2 s3 s4
  obtain ⟨⟨s0, s1, s2, s3, s4⟩, _, _⟩ := id bx5
  go_wp2_with fail
  refine ((fun w => awake06 w) _).mono ?_
  rintro e w6 ⟨rfl, hb6⟩
  have bx6 := Box.below bx5 hb6
  have hB6 : Below w.heap.size w w6 := Below.step hB5 hb6
  clear hb6 bx5 hB5
  clear s0 s1 s2 s3 s4
  obtain ⟨⟨s0, s1, s2, s3, s4⟩, _, _⟩ := id bx6
  go_wp2_with fail
  refine (Hloose.out _).mono ?_
  rintro e w7 ⟨rfl, hb7⟩
  have bx7 := Box.below bx6 hb7
  have hB7 : Below w.heap.size w w7 := Below.step hB6 hb7
  clear hb7 bx6 hB6
  clear s0 s1 s2 s3 s4
  obtain ⟨⟨s0, s1, s2, s3, s4⟩, _, _⟩ := id bx7
  go_wp2_with fail
  refine (Hheld.out _).mono ?_
  rintro e w8 ⟨rfl, hb8⟩
  have bx8 := Box.below bx7 hb8
  have hB8 : Below w.heap.size w w8 := Below.step hB7 hb8
  clear hb8 bx7 hB7
  clear s0 s1 s2 s3 s4
  obtain ⟨⟨s0, s1, s2, s3, s4⟩, _, _⟩ := id bx8
  go_wp2_with fail
  refine (Hlive.out _).mono ?_
  rintro e w9 ⟨rfl, hb9⟩
  have bx9 := Box.below bx8 hb9
  have hB9 : Below w.heap.size w w9 := Below.step hB8 hb9
  clear hb9 bx8 hB8
  clear s0 s1 s2 s3 s4
  obtain ⟨⟨s0, s1, s2, s3, s4⟩, _, _⟩ := id bx9
  go_wp2_with fail
  refine (Hover.out _).mono ?_
  rintro e w10 ⟨rfl, hb10⟩
  have bx10 := Box.below bx9 hb10
  have hB10 : Below w.heap.size w w10 := Below.step hB9 hb10
  clear hb10 bx9 hB9
  clear s0 s1 s2 s3 s4
  obtain ⟨⟨s0, s1, s2, s3, s4⟩, _, _⟩ := id bx10
  go_wp2_with fail
  refine (HK.out _).mono ?_
  rintro e w11 ⟨rfl, hb11⟩
  have bx11 := Box.below bx10 hb11
  have hB11 : Below w.heap.size w w11 := Below.step hB10 hb11
  clear hb11 bx10 hB10
  clear s0 s1 s2 s3 s4
  obtain ⟨⟨s0, s1, s2, s3, s4⟩, _, _⟩ := id bx11
  go_wp2_with fail
  refine (HN.out _).mono ?_
  rintro e w12 ⟨rfl, hb12⟩
  have bx12 := Box.below bx11 hb12
  have hB12 : Below w.heap.size w w12 := Below.step hB11 hb12
  clear hb12 bx11 hB11
  clear s0 s1 s2 s3 s4
  obtain ⟨⟨s0, s1, s2, s3, s4⟩, _, _⟩ := id bx12
  go_wp2
  go_ret
  exact ⟨rfl, hB12⟩
set_option maxRecDepth 100000 in
set_option maxHeartbeats 4000000 in
theorem main_bad_L1 (g l f X a0 a2 a3 a4 : Int) (b a1 : Bool) (s : ByteArray) (w : World) 
   (j : Nat) (hW : ∀ w, Calls Try.prog 23 #[.agg #[.int .i64 1, .bool b, .int .i64 g, .int .i64 l, .int .i64 f]] w (PackBad j w)) (hR : ∀ w, Calls Try.prog 24 #[.agg #[.int .i64 1, .bool b, .int .i64 g, .int .i64 l, .int .i64 f]] w fun e w' => e = .returned (.tuple #[.int .u64 0, .int .i64 5]) ∧ Below w.heap.size w w')
   (hA : ∀ w, Calls Try.prog 25 #[.int .u64 X] w fun e w' => e = .returned (.agg #[.int .i64 a0, .bool a1, .int .i64 a2, .int .i64 a3, .int .i64 a4]) ∧ Below w.heap.size w w') (hB : ∀ w, Calls Try.prog 26 #[.int .u64 X] w fun e w' => e = .returned (.agg #[.int .i64 a0, .bool a1, .int .i64 a2, .int .i64 a3, .int .i64 a4]) ∧ Below w.heap.size w w')
   (hK : ∀ w, Calls Try.prog 34 #[.agg #[.int .i64 1, .bool b, .int .i64 g, .int .i64 l, .int .i64 f]] w fun e w' => e = .returned (.string s) ∧ Below w.heap.size w w') (hN : ∀ w, Calls Try.prog 35 #[.int .i64 1] w fun e w' => e = .returned (.string s) ∧ Below w.heap.size w w') :
    Calls Try.prog 5 #[.agg #[.int .i64 1, .bool b, .int .i64 g, .int .i64 l, .int .i64 f], .int .u64 X] w fun e w' => e = .returned (.bool true) ∧ Below w.heap.size w w' := by
  have HW := Lib.hid hW
  have HR := Lib.hid hR
  have HA := Lib.hid hA
  have HB := Lib.hid hB
  have HK := Lib.hid hK
  have HN := Lib.hid hN
  clear hW hR hA hB hK hN
  have Hloose := Lib.hid (fun w => looseL1 g l f b w)
  have Hheld := Lib.hid (fun w => heldL1 g l f b w)
  have Hlive := Lib.hid (fun w => liveL1 g l f b w)
  have Hover := Lib.hid (fun w => overL1 g l f b w)
  have Hrloose := Lib.hid (fun w => rlooseL1 w)
  have Hrheld := Lib.hid (fun w => rheldL1 w)
  go_enter Try.func5, Try.ntmps5
  have bx0 := Box.new w 1 g l f b
  go_wp2_with fail
  refine (HW.out _).mono ?_
  rintro e w1 ⟨y, rfl, hF1, hb1⟩
  have HF1 := Lib.hid hF1
  clear hF1
  have bx1 := bx0.below hb1
  have hB1 : Below w.heap.size w w1 := Below.step (by go_grown) hb1
  clear hb1
  obtain ⟨⟨s0, s1, s2, s3, s4⟩, _, _⟩ := id bx1
  go_wp2_with fail
  refine (HR.out _).mono ?_
  rintro e w2 ⟨rfl, hb2⟩
  have bx2 := bx1.below hb2
  have hB2 : Below w.heap.size w w2 := Below.step hB1 hb2
  have HF2 := Lib.hid (HF1.out.below hb2)
  clear hb2
  clear s0 s1 s2 s3 s4
  go_wp2_with fail
  refine region_sc (by kernel_rfl) (by kernel_rfl) ?_
  iterate 5 (first | go_big_quiet_skip | (go_big_quiet_want; go_big_quiet_op; first | go_big_quiet_on | (refine ⟨_, fun _ _ => rfl, ?_⟩; go_big_quiet_on)))
  go_big_quiet_want
  go_big_quiet_op
  refine ⟨_, fun wq hq => (num_at (by decide) (by decide) (HF2.out.below hq)).mono (fun _ _ ⟨he, hb⟩ => ⟨he, Below.step hq hb⟩), ?_⟩
  go_big_quiet_on
  iterate 15 (first | go_big_quiet_skip | (go_big_quiet_want; go_big_quiet_op; first | go_big_quiet_on | (refine ⟨_, fun _ _ => rfl, ?_⟩; go_big_quiet_on)))
  go_big_quiet_want
  go_big_quiet_op
  refine ⟨_, fun wq hq => Sc.call HA.out hq, ?_⟩
  go_big_quiet_on
  iterate 1 (first | go_big_quiet_skip | (go_big_quiet_want; go_big_quiet_op; first | go_big_quiet_on | (refine ⟨_, fun _ _ => rfl, ?_⟩; go_big_quiet_on)))
  go_big_quiet_want
  go_big_quiet_op
  refine ⟨_, fun wq hq => Sc.call HB.out hq, ?_⟩
  go_big_quiet_on
  iterate 2 (first | go_big_quiet_skip | (go_big_quiet_want; go_big_quiet_op; first | go_big_quiet_on | (refine ⟨_, fun _ _ => rfl, ?_⟩; go_big_quiet_on)))
  refine wpQuiet_nil ?_
  intro w3 hv
  have bx3 := Box.below bx2 hv
  have hB3 : Below w.heap.size w w3 := Below.step hB2 hv
  clear hv
  obtain ⟨⟨s0, s1, s2, s3, s4⟩, _, _⟩ := id bx3
  go_wp2_with fail
  refine (Hrloose.out _).mono ?_
  rintro e w4 ⟨rfl, hb4⟩
  have bx4 := Box.below bx3 hb4
  have hB4 : Below w.heap.size w w4 := Below.step hB3 hb4
  clear hb4 bx3 hB3
  clear s0 s1 s2 s3 s4
  obtain ⟨⟨s0, s1, s2, s3, s4⟩, _, _⟩ := id bx4
  go_wp2_with fail
  refine (Hrheld.out _).mono ?_
  rintro e w5 ⟨rfl, hb5⟩
  have bx5 := Box.below bx4 hb5
  have hB5 : Below w.heap.size w w5 := Below.step hB4 hb5
  clear hb5 bx4 hB4
  clear s0 s1 s2 s3 s4
  obtain ⟨⟨s0, s1, s2, s3, s4⟩, _, _⟩ := id bx5
  go_wp2_with fail
  refine ((fun w => awake06 w) _).mono ?_
  rintro e w6 ⟨rfl, hb6⟩
  have bx6 := Box.below bx5 hb6
  have hB6 : Below w.heap.size w w6 := Below.step hB5 hb6
  clear hb6 bx5 hB5
  clear s0 s1 s2 s3 s4
  obtain ⟨⟨s0, s1, s2, s3, s4⟩, _, _⟩ := id bx6
  go_wp2_with fail
  refine (Hloose.out _).mono ?_
  rintro e w7 ⟨rfl, hb7⟩
  have bx7 := Box.below bx6 hb7
  have hB7 : Below w.heap.size w w7 := Below.step hB6 hb7
  clear hb7 bx6 hB6
  clear s0 s1 s2 s3 s4
  obtain ⟨⟨s0, s1, s2, s3, s4⟩, _, _⟩ := id bx7
  go_wp2_with fail
  refine (Hheld.out _).mono ?_
  rintro e w8 ⟨rfl, hb8⟩
  have bx8 := Box.below bx7 hb8
  have hB8 : Below w.heap.size w w8 := Below.step hB7 hb8
  clear hb8 bx7 hB7
  clear s0 s1 s2 s3 s4
  obtain ⟨⟨s0, s1, s2, s3, s4⟩, _, _⟩ := id bx8
  go_wp2_with fail
  refine (Hlive.out _).mono ?_
  rintro e w9 ⟨rfl, hb9⟩
  have bx9 := Box.below bx8 hb9
  have hB9 : Below w.heap.size w w9 := Below.step hB8 hb9
  clear hb9 bx8 hB8
  clear s0 s1 s2 s3 s4
  obtain ⟨⟨s0, s1, s2, s3, s4⟩, _, _⟩ := id bx9
  go_wp2_with fail
  refine (Hover.out _).mono ?_
  rintro e w10 ⟨rfl, hb10⟩
  have bx10 := Box.below bx9 hb10
  have hB10 : Below w.heap.size w w10 := Below.step hB9 hb10
  clear hb10 bx9 hB9
  clear s0 s1 s2 s3 s4
  obtain ⟨⟨s0, s1, s2, s3, s4⟩, _, _⟩ := id bx10
  go_wp2_with fail
  refine (HK.out _).mono ?_
  rintro e w11 ⟨rfl, hb11⟩
  have bx11 := Box.below bx10 hb11
  have hB11 : Below w.heap.size w w11 := Below.step hB10 hb11
  clear hb11 bx10 hB10
  clear s0 s1 s2 s3 s4
  obtain ⟨⟨s0, s1, s2, s3, s4⟩, _, _⟩ := id bx11
  go_wp2_with fail
  refine (HN.out _).mono ?_
  rintro e w12 ⟨rfl, hb12⟩
  have bx12 := Box.below bx11 hb12
  have hB12 : Below w.heap.size w w12 := Below.step hB11 hb12
  clear hb12 bx11 hB11
  clear s0 s1 s2 s3 s4
  obtain ⟨⟨s0, s1, s2, s3, s4⟩, _, _⟩ := id bx12
  go_wp2
  go_ret
  exact ⟨rfl, hB12⟩
set_option maxRecDepth 100000 in
set_option maxHeartbeats 4000000 in
theorem main_bad_L2 (g l f X a0 a2 a3 a4 : Int) (b a1 : Bool) (s : ByteArray) (w : World) 
   (j : Nat) (hW : ∀ w, Calls Try.prog 23 #[.agg #[.int .i64 2, .bool b, .int .i64 g, .int .i64 l, .int .i64 f]] w (PackBad j w)) (hR : ∀ w, Calls Try.prog 24 #[.agg #[.int .i64 2, .bool b, .int .i64 g, .int .i64 l, .int .i64 f]] w fun e w' => e = .returned (.tuple #[.int .u64 0, .int .i64 5]) ∧ Below w.heap.size w w')
   (hA : ∀ w, Calls Try.prog 25 #[.int .u64 X] w fun e w' => e = .returned (.agg #[.int .i64 a0, .bool a1, .int .i64 a2, .int .i64 a3, .int .i64 a4]) ∧ Below w.heap.size w w') (hB : ∀ w, Calls Try.prog 26 #[.int .u64 X] w fun e w' => e = .returned (.agg #[.int .i64 a0, .bool a1, .int .i64 a2, .int .i64 a3, .int .i64 a4]) ∧ Below w.heap.size w w')
   (hK : ∀ w, Calls Try.prog 34 #[.agg #[.int .i64 2, .bool b, .int .i64 g, .int .i64 l, .int .i64 f]] w fun e w' => e = .returned (.string s) ∧ Below w.heap.size w w') (hN : ∀ w, Calls Try.prog 35 #[.int .i64 2] w fun e w' => e = .returned (.string s) ∧ Below w.heap.size w w') :
    Calls Try.prog 5 #[.agg #[.int .i64 2, .bool b, .int .i64 g, .int .i64 l, .int .i64 f], .int .u64 X] w fun e w' => e = .returned (.bool true) ∧ Below w.heap.size w w' := by
  have HW := Lib.hid hW
  have HR := Lib.hid hR
  have HA := Lib.hid hA
  have HB := Lib.hid hB
  have HK := Lib.hid hK
  have HN := Lib.hid hN
  clear hW hR hA hB hK hN
  have Hloose := Lib.hid (fun w => looseL2 g l f b w)
  have Hheld := Lib.hid (fun w => heldL2 g l f b w)
  have Hlive := Lib.hid (fun w => liveL2 g l f b w)
  have Hover := Lib.hid (fun w => overL2 g l f b w)
  have Hrloose := Lib.hid (fun w => rlooseL2 w)
  have Hrheld := Lib.hid (fun w => rheldL2 w)
  go_enter Try.func5, Try.ntmps5
  have bx0 := Box.new w 2 g l f b
  go_wp2_with fail
  refine (HW.out _).mono ?_
  rintro e w1 ⟨y, rfl, hF1, hb1⟩
  have HF1 := Lib.hid hF1
  clear hF1
  have bx1 := bx0.below hb1
  have hB1 : Below w.heap.size w w1 := Below.step (by go_grown) hb1
  clear hb1
  obtain ⟨⟨s0, s1, s2, s3, s4⟩, _, _⟩ := id bx1
  go_wp2_with fail
  refine (HR.out _).mono ?_
  rintro e w2 ⟨rfl, hb2⟩
  have bx2 := bx1.below hb2
  have hB2 : Below w.heap.size w w2 := Below.step hB1 hb2
  have HF2 := Lib.hid (HF1.out.below hb2)
  clear hb2
  clear s0 s1 s2 s3 s4
  go_wp2_with fail
  refine region_sc (by kernel_rfl) (by kernel_rfl) ?_
  iterate 5 (first | go_big_quiet_skip | (go_big_quiet_want; go_big_quiet_op; first | go_big_quiet_on | (refine ⟨_, fun _ _ => rfl, ?_⟩; go_big_quiet_on)))
  go_big_quiet_want
  go_big_quiet_op
  refine ⟨_, fun wq hq => (num_at (by decide) (by decide) (HF2.out.below hq)).mono (fun _ _ ⟨he, hb⟩ => ⟨he, Below.step hq hb⟩), ?_⟩
  go_big_quiet_on
  iterate 15 (first | go_big_quiet_skip | (go_big_quiet_want; go_big_quiet_op; first | go_big_quiet_on | (refine ⟨_, fun _ _ => rfl, ?_⟩; go_big_quiet_on)))
  go_big_quiet_want
  go_big_quiet_op
  refine ⟨_, fun wq hq => Sc.call HA.out hq, ?_⟩
  go_big_quiet_on
  iterate 1 (first | go_big_quiet_skip | (go_big_quiet_want; go_big_quiet_op; first | go_big_quiet_on | (refine ⟨_, fun _ _ => rfl, ?_⟩; go_big_quiet_on)))
  go_big_quiet_want
  go_big_quiet_op
  refine ⟨_, fun wq hq => Sc.call HB.out hq, ?_⟩
  go_big_quiet_on
  iterate 2 (first | go_big_quiet_skip | (go_big_quiet_want; go_big_quiet_op; first | go_big_quiet_on | (refine ⟨_, fun _ _ => rfl, ?_⟩; go_big_quiet_on)))
  refine wpQuiet_nil ?_
  intro w3 hv
  have bx3 := Box.below bx2 hv
  have hB3 : Below w.heap.size w w3 := Below.step hB2 hv
  clear hv
  obtain ⟨⟨s0, s1, s2, s3, s4⟩, _, _⟩ := id bx3
  go_wp2_with fail
  refine (Hrloose.out _).mono ?_
  rintro e w4 ⟨rfl, hb4⟩
  have bx4 := Box.below bx3 hb4
  have hB4 : Below w.heap.size w w4 := Below.step hB3 hb4
  clear hb4 bx3 hB3
  clear s0 s1 s2 s3 s4
  obtain ⟨⟨s0, s1, s2, s3, s4⟩, _, _⟩ := id bx4
  go_wp2_with fail
  refine (Hrheld.out _).mono ?_
  rintro e w5 ⟨rfl, hb5⟩
  have bx5 := Box.below bx4 hb5
  have hB5 : Below w.heap.size w w5 := Below.step hB4 hb5
  clear hb5 bx4 hB4
  clear s0 s1 s2 s3 s4
  obtain ⟨⟨s0, s1, s2, s3, s4⟩, _, _⟩ := id bx5
  go_wp2_with fail
  refine ((fun w => awake06 w) _).mono ?_
  rintro e w6 ⟨rfl, hb6⟩
  have bx6 := Box.below bx5 hb6
  have hB6 : Below w.heap.size w w6 := Below.step hB5 hb6
  clear hb6 bx5 hB5
  clear s0 s1 s2 s3 s4
  obtain ⟨⟨s0, s1, s2, s3, s4⟩, _, _⟩ := id bx6
  go_wp2_with fail
  refine (Hloose.out _).mono ?_
  rintro e w7 ⟨rfl, hb7⟩
  have bx7 := Box.below bx6 hb7
  have hB7 : Below w.heap.size w w7 := Below.step hB6 hb7
  clear hb7 bx6 hB6
  clear s0 s1 s2 s3 s4
  obtain ⟨⟨s0, s1, s2, s3, s4⟩, _, _⟩ := id bx7
  go_wp2_with fail
  refine (Hheld.out _).mono ?_
  rintro e w8 ⟨rfl, hb8⟩
  have bx8 := Box.below bx7 hb8
  have hB8 : Below w.heap.size w w8 := Below.step hB7 hb8
  clear hb8 bx7 hB7
  clear s0 s1 s2 s3 s4
  obtain ⟨⟨s0, s1, s2, s3, s4⟩, _, _⟩ := id bx8
  go_wp2_with fail
  refine (Hlive.out _).mono ?_
  rintro e w9 ⟨rfl, hb9⟩
  have bx9 := Box.below bx8 hb9
  have hB9 : Below w.heap.size w w9 := Below.step hB8 hb9
  clear hb9 bx8 hB8
  clear s0 s1 s2 s3 s4
  obtain ⟨⟨s0, s1, s2, s3, s4⟩, _, _⟩ := id bx9
  go_wp2_with fail
  refine (Hover.out _).mono ?_
  rintro e w10 ⟨rfl, hb10⟩
  have bx10 := Box.below bx9 hb10
  have hB10 : Below w.heap.size w w10 := Below.step hB9 hb10
  clear hb10 bx9 hB9
  clear s0 s1 s2 s3 s4
  obtain ⟨⟨s0, s1, s2, s3, s4⟩, _, _⟩ := id bx10
  go_wp2_with fail
  refine (HK.out _).mono ?_
  rintro e w11 ⟨rfl, hb11⟩
  have bx11 := Box.below bx10 hb11
  have hB11 : Below w.heap.size w w11 := Below.step hB10 hb11
  clear hb11 bx10 hB10
  clear s0 s1 s2 s3 s4
  obtain ⟨⟨s0, s1, s2, s3, s4⟩, _, _⟩ := id bx11
  go_wp2_with fail
  refine (HN.out _).mono ?_
  rintro e w12 ⟨rfl, hb12⟩
  have bx12 := Box.below bx11 hb12
  have hB12 : Below w.heap.size w w12 := Below.step hB11 hb12
  clear hb12 bx11 hB11
  clear s0 s1 s2 s3 s4
  obtain ⟨⟨s0, s1, s2, s3, s4⟩, _, _⟩ := id bx12
  go_wp2
  go_ret
  exact ⟨rfl, hB12⟩
set_option maxRecDepth 100000 in
set_option maxHeartbeats 4000000 in
theorem main_bad_H3 (g l f X a0 a2 a3 a4 : Int) (b a1 : Bool) (s : ByteArray) (w : World) 
   (j : Nat) (hW : ∀ w, Calls Try.prog 23 #[.agg #[.int .i64 3, .bool b, .int .i64 g, .int .i64 l, .int .i64 f]] w (PackBad j w)) (hR : ∀ w, Calls Try.prog 24 #[.agg #[.int .i64 3, .bool b, .int .i64 g, .int .i64 l, .int .i64 f]] w fun e w' => e = .returned (.tuple #[.int .u64 0, .int .i64 5]) ∧ Below w.heap.size w w')
   (hA : ∀ w, Calls Try.prog 25 #[.int .u64 X] w fun e w' => e = .returned (.agg #[.int .i64 a0, .bool a1, .int .i64 a2, .int .i64 a3, .int .i64 a4]) ∧ Below w.heap.size w w') (hB : ∀ w, Calls Try.prog 26 #[.int .u64 X] w fun e w' => e = .returned (.agg #[.int .i64 a0, .bool a1, .int .i64 a2, .int .i64 a3, .int .i64 a4]) ∧ Below w.heap.size w w')
   (hK : ∀ w, Calls Try.prog 34 #[.agg #[.int .i64 3, .bool b, .int .i64 g, .int .i64 l, .int .i64 f]] w fun e w' => e = .returned (.string s) ∧ Below w.heap.size w w') (hN : ∀ w, Calls Try.prog 35 #[.int .i64 3] w fun e w' => e = .returned (.string s) ∧ Below w.heap.size w w') :
    Calls Try.prog 5 #[.agg #[.int .i64 3, .bool b, .int .i64 g, .int .i64 l, .int .i64 f], .int .u64 X] w fun e w' => e = .returned (.bool true) ∧ Below w.heap.size w w' := by
  have HW := Lib.hid hW
  have HR := Lib.hid hR
  have HA := Lib.hid hA
  have HB := Lib.hid hB
  have HK := Lib.hid hK
  have HN := Lib.hid hN
  clear hW hR hA hB hK hN
  have Hloose := Lib.hid (fun w => looseH3 g l f b w)
  have Hheld := Lib.hid (fun w => heldH3 g l f b w)
  have Hlive := Lib.hid (fun w => liveH3 g l f b w)
  have Hover := Lib.hid (fun w => overH3 g l f b w)
  have Hrloose := Lib.hid (fun w => rlooseH3 w)
  have Hrheld := Lib.hid (fun w => rheldH3 w)
  go_enter Try.func5, Try.ntmps5
  have bx0 := Box.new w 3 g l f b
  go_wp2_with fail
  refine (HW.out _).mono ?_
  rintro e w1 ⟨y, rfl, hF1, hb1⟩
  have HF1 := Lib.hid hF1
  clear hF1
  have bx1 := bx0.below hb1
  have hB1 : Below w.heap.size w w1 := Below.step (by go_grown) hb1
  clear hb1
  obtain ⟨⟨s0, s1, s2, s3, s4⟩, _, _⟩ := id bx1
  go_wp2_with fail
  refine (HR.out _).mono ?_
  rintro e w2 ⟨rfl, hb2⟩
  have bx2 := bx1.below hb2
  have hB2 : Below w.heap.size w w2 := Below.step hB1 hb2
  have HF2 := Lib.hid (HF1.out.below hb2)
  clear hb2
  clear s0 s1 s2 s3 s4
  go_wp2_with fail
  refine region_sc (by kernel_rfl) (by kernel_rfl) ?_
  iterate 5 (first | go_big_quiet_skip | (go_big_quiet_want; go_big_quiet_op; first | go_big_quiet_on | (refine ⟨_, fun _ _ => rfl, ?_⟩; go_big_quiet_on)))
  go_big_quiet_want
  go_big_quiet_op
  refine ⟨_, fun wq hq => (num_at (by decide) (by decide) (HF2.out.below hq)).mono (fun _ _ ⟨he, hb⟩ => ⟨he, Below.step hq hb⟩), ?_⟩
  go_big_quiet_on
  iterate 15 (first | go_big_quiet_skip | (go_big_quiet_want; go_big_quiet_op; first | go_big_quiet_on | (refine ⟨_, fun _ _ => rfl, ?_⟩; go_big_quiet_on)))
  go_big_quiet_want
  go_big_quiet_op
  refine ⟨_, fun wq hq => Sc.call HA.out hq, ?_⟩
  go_big_quiet_on
  iterate 1 (first | go_big_quiet_skip | (go_big_quiet_want; go_big_quiet_op; first | go_big_quiet_on | (refine ⟨_, fun _ _ => rfl, ?_⟩; go_big_quiet_on)))
  go_big_quiet_want
  go_big_quiet_op
  refine ⟨_, fun wq hq => Sc.call HB.out hq, ?_⟩
  go_big_quiet_on
  iterate 2 (first | go_big_quiet_skip | (go_big_quiet_want; go_big_quiet_op; first | go_big_quiet_on | (refine ⟨_, fun _ _ => rfl, ?_⟩; go_big_quiet_on)))
  refine wpQuiet_nil ?_
  intro w3 hv
  have bx3 := Box.below bx2 hv
  have hB3 : Below w.heap.size w w3 := Below.step hB2 hv
  clear hv
  obtain ⟨⟨s0, s1, s2, s3, s4⟩, _, _⟩ := id bx3
  go_wp2_with fail
  refine (Hrloose.out _).mono ?_
  rintro e w4 ⟨rfl, hb4⟩
  have bx4 := Box.below bx3 hb4
  have hB4 : Below w.heap.size w w4 := Below.step hB3 hb4
  clear hb4 bx3 hB3
  clear s0 s1 s2 s3 s4
  obtain ⟨⟨s0, s1, s2, s3, s4⟩, _, _⟩ := id bx4
  go_wp2_with fail
  refine (Hrheld.out _).mono ?_
  rintro e w5 ⟨rfl, hb5⟩
  have bx5 := Box.below bx4 hb5
  have hB5 : Below w.heap.size w w5 := Below.step hB4 hb5
  clear hb5 bx4 hB4
  clear s0 s1 s2 s3 s4
  obtain ⟨⟨s0, s1, s2, s3, s4⟩, _, _⟩ := id bx5
  go_wp2_with fail
  refine ((fun w => awake06 w) _).mono ?_
  rintro e w6 ⟨rfl, hb6⟩
  have bx6 := Box.below bx5 hb6
  have hB6 : Below w.heap.size w w6 := Below.step hB5 hb6
  clear hb6 bx5 hB5
  clear s0 s1 s2 s3 s4
  obtain ⟨⟨s0, s1, s2, s3, s4⟩, _, _⟩ := id bx6
  go_wp2_with fail
  refine (Hloose.out _).mono ?_
  rintro e w7 ⟨rfl, hb7⟩
  have bx7 := Box.below bx6 hb7
  have hB7 : Below w.heap.size w w7 := Below.step hB6 hb7
  clear hb7 bx6 hB6
  clear s0 s1 s2 s3 s4
  obtain ⟨⟨s0, s1, s2, s3, s4⟩, _, _⟩ := id bx7
  go_wp2_with fail
  refine (Hheld.out _).mono ?_
  rintro e w8 ⟨rfl, hb8⟩
  have bx8 := Box.below bx7 hb8
  have hB8 : Below w.heap.size w w8 := Below.step hB7 hb8
  clear hb8 bx7 hB7
  clear s0 s1 s2 s3 s4
  obtain ⟨⟨s0, s1, s2, s3, s4⟩, _, _⟩ := id bx8
  go_wp2_with fail
  refine (Hlive.out _).mono ?_
  rintro e w9 ⟨rfl, hb9⟩
  have bx9 := Box.below bx8 hb9
  have hB9 : Below w.heap.size w w9 := Below.step hB8 hb9
  clear hb9 bx8 hB8
  clear s0 s1 s2 s3 s4
  obtain ⟨⟨s0, s1, s2, s3, s4⟩, _, _⟩ := id bx9
  go_wp2_with fail
  refine (Hover.out _).mono ?_
  rintro e w10 ⟨rfl, hb10⟩
  have bx10 := Box.below bx9 hb10
  have hB10 : Below w.heap.size w w10 := Below.step hB9 hb10
  clear hb10 bx9 hB9
  clear s0 s1 s2 s3 s4
  obtain ⟨⟨s0, s1, s2, s3, s4⟩, _, _⟩ := id bx10
  go_wp2_with fail
  refine (HK.out _).mono ?_
  rintro e w11 ⟨rfl, hb11⟩
  have bx11 := Box.below bx10 hb11
  have hB11 : Below w.heap.size w w11 := Below.step hB10 hb11
  clear hb11 bx10 hB10
  clear s0 s1 s2 s3 s4
  obtain ⟨⟨s0, s1, s2, s3, s4⟩, _, _⟩ := id bx11
  go_wp2_with fail
  refine (HN.out _).mono ?_
  rintro e w12 ⟨rfl, hb12⟩
  have bx12 := Box.below bx11 hb12
  have hB12 : Below w.heap.size w w12 := Below.step hB11 hb12
  clear hb12 bx11 hB11
  clear s0 s1 s2 s3 s4
  obtain ⟨⟨s0, s1, s2, s3, s4⟩, _, _⟩ := id bx12
  go_wp2
  go_ret
  exact ⟨rfl, hB12⟩
set_option maxRecDepth 100000 in
set_option maxHeartbeats 4000000 in
theorem main_bad_H4 (g l f X a0 a2 a3 a4 : Int) (b a1 : Bool) (s : ByteArray) (w : World) 
   (j : Nat) (hW : ∀ w, Calls Try.prog 23 #[.agg #[.int .i64 4, .bool b, .int .i64 g, .int .i64 l, .int .i64 f]] w (PackBad j w)) (hR : ∀ w, Calls Try.prog 24 #[.agg #[.int .i64 4, .bool b, .int .i64 g, .int .i64 l, .int .i64 f]] w fun e w' => e = .returned (.tuple #[.int .u64 0, .int .i64 5]) ∧ Below w.heap.size w w')
   (hA : ∀ w, Calls Try.prog 25 #[.int .u64 X] w fun e w' => e = .returned (.agg #[.int .i64 a0, .bool a1, .int .i64 a2, .int .i64 a3, .int .i64 a4]) ∧ Below w.heap.size w w') (hB : ∀ w, Calls Try.prog 26 #[.int .u64 X] w fun e w' => e = .returned (.agg #[.int .i64 a0, .bool a1, .int .i64 a2, .int .i64 a3, .int .i64 a4]) ∧ Below w.heap.size w w')
   (hK : ∀ w, Calls Try.prog 34 #[.agg #[.int .i64 4, .bool b, .int .i64 g, .int .i64 l, .int .i64 f]] w fun e w' => e = .returned (.string s) ∧ Below w.heap.size w w') (hN : ∀ w, Calls Try.prog 35 #[.int .i64 4] w fun e w' => e = .returned (.string s) ∧ Below w.heap.size w w') :
    Calls Try.prog 5 #[.agg #[.int .i64 4, .bool b, .int .i64 g, .int .i64 l, .int .i64 f], .int .u64 X] w fun e w' => e = .returned (.bool true) ∧ Below w.heap.size w w' := by
  have HW := Lib.hid hW
  have HR := Lib.hid hR
  have HA := Lib.hid hA
  have HB := Lib.hid hB
  have HK := Lib.hid hK
  have HN := Lib.hid hN
  clear hW hR hA hB hK hN
  have Hloose := Lib.hid (fun w => looseH4 g l f b w)
  have Hheld := Lib.hid (fun w => heldH4 g l f b w)
  have Hlive := Lib.hid (fun w => liveH4 g l f b w)
  have Hover := Lib.hid (fun w => overH4 g l f b w)
  have Hrloose := Lib.hid (fun w => rlooseH4 w)
  have Hrheld := Lib.hid (fun w => rheldH4 w)
  go_enter Try.func5, Try.ntmps5
  have bx0 := Box.new w 4 g l f b
  go_wp2_with fail
  refine (HW.out _).mono ?_
  rintro e w1 ⟨y, rfl, hF1, hb1⟩
  have HF1 := Lib.hid hF1
  clear hF1
  have bx1 := bx0.below hb1
  have hB1 : Below w.heap.size w w1 := Below.step (by go_grown) hb1
  clear hb1
  obtain ⟨⟨s0, s1, s2, s3, s4⟩, _, _⟩ := id bx1
  go_wp2_with fail
  refine (HR.out _).mono ?_
  rintro e w2 ⟨rfl, hb2⟩
  have bx2 := bx1.below hb2
  have hB2 : Below w.heap.size w w2 := Below.step hB1 hb2
  have HF2 := Lib.hid (HF1.out.below hb2)
  clear hb2
  clear s0 s1 s2 s3 s4
  go_wp2_with fail
  refine region_sc (by kernel_rfl) (by kernel_rfl) ?_
  iterate 5 (first | go_big_quiet_skip | (go_big_quiet_want; go_big_quiet_op; first | go_big_quiet_on | (refine ⟨_, fun _ _ => rfl, ?_⟩; go_big_quiet_on)))
  go_big_quiet_want
  go_big_quiet_op
  refine ⟨_, fun wq hq => (num_at (by decide) (by decide) (HF2.out.below hq)).mono (fun _ _ ⟨he, hb⟩ => ⟨he, Below.step hq hb⟩), ?_⟩
  go_big_quiet_on
  iterate 15 (first | go_big_quiet_skip | (go_big_quiet_want; go_big_quiet_op; first | go_big_quiet_on | (refine ⟨_, fun _ _ => rfl, ?_⟩; go_big_quiet_on)))
  go_big_quiet_want
  go_big_quiet_op
  refine ⟨_, fun wq hq => Sc.call HA.out hq, ?_⟩
  go_big_quiet_on
  iterate 1 (first | go_big_quiet_skip | (go_big_quiet_want; go_big_quiet_op; first | go_big_quiet_on | (refine ⟨_, fun _ _ => rfl, ?_⟩; go_big_quiet_on)))
  go_big_quiet_want
  go_big_quiet_op
  refine ⟨_, fun wq hq => Sc.call HB.out hq, ?_⟩
  go_big_quiet_on
  iterate 2 (first | go_big_quiet_skip | (go_big_quiet_want; go_big_quiet_op; first | go_big_quiet_on | (refine ⟨_, fun _ _ => rfl, ?_⟩; go_big_quiet_on)))
  refine wpQuiet_nil ?_
  intro w3 hv
  have bx3 := Box.below bx2 hv
  have hB3 : Below w.heap.size w w3 := Below.step hB2 hv
  clear hv
  obtain ⟨⟨s0, s1, s2, s3, s4⟩, _, _⟩ := id bx3
  go_wp2_with fail
  refine (Hrloose.out _).mono ?_
  rintro e w4 ⟨rfl, hb4⟩
  have bx4 := Box.below bx3 hb4
  have hB4 : Below w.heap.size w w4 := Below.step hB3 hb4
  clear hb4 bx3 hB3
  clear s0 s1 s2 s3 s4
  obtain ⟨⟨s0, s1, s2, s3, s4⟩, _, _⟩ := id bx4
  go_wp2_with fail
  refine (Hrheld.out _).mono ?_
  rintro e w5 ⟨rfl, hb5⟩
  have bx5 := Box.below bx4 hb5
  have hB5 : Below w.heap.size w w5 := Below.step hB4 hb5
  clear hb5 bx4 hB4
  clear s0 s1 s2 s3 s4
  obtain ⟨⟨s0, s1, s2, s3, s4⟩, _, _⟩ := id bx5
  go_wp2_with fail
  refine ((fun w => awake06 w) _).mono ?_
  rintro e w6 ⟨rfl, hb6⟩
  have bx6 := Box.below bx5 hb6
  have hB6 : Below w.heap.size w w6 := Below.step hB5 hb6
  clear hb6 bx5 hB5
  clear s0 s1 s2 s3 s4
  obtain ⟨⟨s0, s1, s2, s3, s4⟩, _, _⟩ := id bx6
  go_wp2_with fail
  refine (Hloose.out _).mono ?_
  rintro e w7 ⟨rfl, hb7⟩
  have bx7 := Box.below bx6 hb7
  have hB7 : Below w.heap.size w w7 := Below.step hB6 hb7
  clear hb7 bx6 hB6
  clear s0 s1 s2 s3 s4
  obtain ⟨⟨s0, s1, s2, s3, s4⟩, _, _⟩ := id bx7
  go_wp2_with fail
  refine (Hheld.out _).mono ?_
  rintro e w8 ⟨rfl, hb8⟩
  have bx8 := Box.below bx7 hb8
  have hB8 : Below w.heap.size w w8 := Below.step hB7 hb8
  clear hb8 bx7 hB7
  clear s0 s1 s2 s3 s4
  obtain ⟨⟨s0, s1, s2, s3, s4⟩, _, _⟩ := id bx8
  go_wp2_with fail
  refine (Hlive.out _).mono ?_
  rintro e w9 ⟨rfl, hb9⟩
  have bx9 := Box.below bx8 hb9
  have hB9 : Below w.heap.size w w9 := Below.step hB8 hb9
  clear hb9 bx8 hB8
  clear s0 s1 s2 s3 s4
  obtain ⟨⟨s0, s1, s2, s3, s4⟩, _, _⟩ := id bx9
  go_wp2_with fail
  refine (Hover.out _).mono ?_
  rintro e w10 ⟨rfl, hb10⟩
  have bx10 := Box.below bx9 hb10
  have hB10 : Below w.heap.size w w10 := Below.step hB9 hb10
  clear hb10 bx9 hB9
  clear s0 s1 s2 s3 s4
  obtain ⟨⟨s0, s1, s2, s3, s4⟩, _, _⟩ := id bx10
  go_wp2_with fail
  refine (HK.out _).mono ?_
  rintro e w11 ⟨rfl, hb11⟩
  have bx11 := Box.below bx10 hb11
  have hB11 : Below w.heap.size w w11 := Below.step hB10 hb11
  clear hb11 bx10 hB10
  clear s0 s1 s2 s3 s4
  obtain ⟨⟨s0, s1, s2, s3, s4⟩, _, _⟩ := id bx11
  go_wp2_with fail
  refine (HN.out _).mono ?_
  rintro e w12 ⟨rfl, hb12⟩
  have bx12 := Box.below bx11 hb12
  have hB12 : Below w.heap.size w w12 := Below.step hB11 hb12
  clear hb12 bx11 hB11
  clear s0 s1 s2 s3 s4
  obtain ⟨⟨s0, s1, s2, s3, s4⟩, _, _⟩ := id bx12
  go_wp2
  go_ret
  exact ⟨rfl, hB12⟩
set_option maxRecDepth 100000 in
set_option maxHeartbeats 4000000 in
theorem main_bad_O (k g l f X a0 a2 a3 a4 : Int) (b a1 : Bool) (s : ByteArray) (w : World) (h1 : 5 ≤ k) (h2 : k ≤ 8)
   (j : Nat) (hW : ∀ w, Calls Try.prog 23 #[.agg #[.int .i64 k, .bool b, .int .i64 g, .int .i64 l, .int .i64 f]] w (PackBad j w)) (hR : ∀ w, Calls Try.prog 24 #[.agg #[.int .i64 k, .bool b, .int .i64 g, .int .i64 l, .int .i64 f]] w fun e w' => e = .returned (.tuple #[.int .u64 0, .int .i64 5]) ∧ Below w.heap.size w w')
   (hA : ∀ w, Calls Try.prog 25 #[.int .u64 X] w fun e w' => e = .returned (.agg #[.int .i64 a0, .bool a1, .int .i64 a2, .int .i64 a3, .int .i64 a4]) ∧ Below w.heap.size w w') (hB : ∀ w, Calls Try.prog 26 #[.int .u64 X] w fun e w' => e = .returned (.agg #[.int .i64 a0, .bool a1, .int .i64 a2, .int .i64 a3, .int .i64 a4]) ∧ Below w.heap.size w w')
   (hK : ∀ w, Calls Try.prog 34 #[.agg #[.int .i64 k, .bool b, .int .i64 g, .int .i64 l, .int .i64 f]] w fun e w' => e = .returned (.string s) ∧ Below w.heap.size w w') (hN : ∀ w, Calls Try.prog 35 #[.int .i64 k] w fun e w' => e = .returned (.string s) ∧ Below w.heap.size w w') :
    Calls Try.prog 5 #[.agg #[.int .i64 k, .bool b, .int .i64 g, .int .i64 l, .int .i64 f], .int .u64 X] w fun e w' => e = .returned (.bool true) ∧ Below w.heap.size w w' := by
  have HW := Lib.hid hW
  have HR := Lib.hid hR
  have HA := Lib.hid hA
  have HB := Lib.hid hB
  have HK := Lib.hid hK
  have HN := Lib.hid hN
  clear hW hR hA hB hK hN
  have Hloose := Lib.hid (fun w => looseO k g l f b w h1 h2)
  have Hheld := Lib.hid (fun w => heldO k g l f b w h1 h2)
  have Hlive := Lib.hid (fun w => liveO k g l f b w h1 h2)
  have Hover := Lib.hid (fun w => overO k g l f b w h1 h2)
  have Hrloose := Lib.hid (fun w => rlooseO k w h1 h2)
  have Hrheld := Lib.hid (fun w => rheldO k w h1 h2)
  have hd1 : (5 : Int) ≤ k := h1
  go_enter Try.func5, Try.ntmps5
  have bx0 := Box.new w k g l f b
  go_wp2_with fail
  refine (HW.out _).mono ?_
  rintro e w1 ⟨y, rfl, hF1, hb1⟩
  have HF1 := Lib.hid hF1
  clear hF1
  have bx1 := bx0.below hb1
  have hB1 : Below w.heap.size w w1 := Below.step (by go_grown) hb1
  clear hb1
  obtain ⟨⟨s0, s1, s2, s3, s4⟩, _, _⟩ := id bx1
  go_wp2_with fail
  refine (HR.out _).mono ?_
  rintro e w2 ⟨rfl, hb2⟩
  have bx2 := bx1.below hb2
  have hB2 : Below w.heap.size w w2 := Below.step hB1 hb2
  have HF2 := Lib.hid (HF1.out.below hb2)
  clear hb2
  clear s0 s1 s2 s3 s4
  go_wp2_with fail
  refine region_sc (by kernel_rfl) (by kernel_rfl) ?_
  iterate 5 (first | go_big_quiet_skip | (go_big_quiet_want; go_big_quiet_op; first | go_big_quiet_on | (refine ⟨_, fun _ _ => rfl, ?_⟩; go_big_quiet_on)))
  go_big_quiet_want
  go_big_quiet_op
  refine ⟨_, fun wq hq => (num_at (by decide) (by decide) (HF2.out.below hq)).mono (fun _ _ ⟨he, hb⟩ => ⟨he, Below.step hq hb⟩), ?_⟩
  go_big_quiet_on
  iterate 15 (first | go_big_quiet_skip | (go_big_quiet_want; go_big_quiet_op; first | go_big_quiet_on | (refine ⟨_, fun _ _ => rfl, ?_⟩; go_big_quiet_on)))
  go_big_quiet_want
  go_big_quiet_op
  refine ⟨_, fun wq hq => Sc.call HA.out hq, ?_⟩
  go_big_quiet_on
  iterate 1 (first | go_big_quiet_skip | (go_big_quiet_want; go_big_quiet_op; first | go_big_quiet_on | (refine ⟨_, fun _ _ => rfl, ?_⟩; go_big_quiet_on)))
  go_big_quiet_want
  go_big_quiet_op
  refine ⟨_, fun wq hq => Sc.call HB.out hq, ?_⟩
  go_big_quiet_on
  iterate 2 (first | go_big_quiet_skip | (go_big_quiet_want; go_big_quiet_op; first | go_big_quiet_on | (refine ⟨_, fun _ _ => rfl, ?_⟩; go_big_quiet_on)))
  refine wpQuiet_nil ?_
  intro w3 hv
  have bx3 := Box.below bx2 hv
  have hB3 : Below w.heap.size w w3 := Below.step hB2 hv
  clear hv
  obtain ⟨⟨s0, s1, s2, s3, s4⟩, _, _⟩ := id bx3
  go_wp2_with fail
  refine (Hrloose.out _).mono ?_
  rintro e w4 ⟨rfl, hb4⟩
  have bx4 := Box.below bx3 hb4
  have hB4 : Below w.heap.size w w4 := Below.step hB3 hb4
  clear hb4 bx3 hB3
  clear s0 s1 s2 s3 s4
  obtain ⟨⟨s0, s1, s2, s3, s4⟩, _, _⟩ := id bx4
  go_wp2_with fail
  refine (Hrheld.out _).mono ?_
  rintro e w5 ⟨rfl, hb5⟩
  have bx5 := Box.below bx4 hb5
  have hB5 : Below w.heap.size w w5 := Below.step hB4 hb5
  clear hb5 bx4 hB4
  clear s0 s1 s2 s3 s4
  obtain ⟨⟨s0, s1, s2, s3, s4⟩, _, _⟩ := id bx5
  go_wp2_with fail
  refine ((fun w => awake06 w) _).mono ?_
  rintro e w6 ⟨rfl, hb6⟩
  have bx6 := Box.below bx5 hb6
  have hB6 : Below w.heap.size w w6 := Below.step hB5 hb6
  clear hb6 bx5 hB5
  clear s0 s1 s2 s3 s4
  obtain ⟨⟨s0, s1, s2, s3, s4⟩, _, _⟩ := id bx6
  go_wp2_with fail
  refine (Hloose.out _).mono ?_
  rintro e w7 ⟨rfl, hb7⟩
  have bx7 := Box.below bx6 hb7
  have hB7 : Below w.heap.size w w7 := Below.step hB6 hb7
  clear hb7 bx6 hB6
  clear s0 s1 s2 s3 s4
  obtain ⟨⟨s0, s1, s2, s3, s4⟩, _, _⟩ := id bx7
  go_wp2_with fail
  refine (Hheld.out _).mono ?_
  rintro e w8 ⟨rfl, hb8⟩
  have bx8 := Box.below bx7 hb8
  have hB8 : Below w.heap.size w w8 := Below.step hB7 hb8
  clear hb8 bx7 hB7
  clear s0 s1 s2 s3 s4
  obtain ⟨⟨s0, s1, s2, s3, s4⟩, _, _⟩ := id bx8
  go_wp2_with fail
  refine (Hlive.out _).mono ?_
  rintro e w9 ⟨rfl, hb9⟩
  have bx9 := Box.below bx8 hb9
  have hB9 : Below w.heap.size w w9 := Below.step hB8 hb9
  clear hb9 bx8 hB8
  clear s0 s1 s2 s3 s4
  obtain ⟨⟨s0, s1, s2, s3, s4⟩, _, _⟩ := id bx9
  go_wp2_with fail
  refine (Hover.out _).mono ?_
  rintro e w10 ⟨rfl, hb10⟩
  have bx10 := Box.below bx9 hb10
  have hB10 : Below w.heap.size w w10 := Below.step hB9 hb10
  clear hb10 bx9 hB9
  clear s0 s1 s2 s3 s4
  obtain ⟨⟨s0, s1, s2, s3, s4⟩, _, _⟩ := id bx10
  go_wp2_with fail
  refine (HK.out _).mono ?_
  rintro e w11 ⟨rfl, hb11⟩
  have bx11 := Box.below bx10 hb11
  have hB11 : Below w.heap.size w w11 := Below.step hB10 hb11
  clear hb11 bx10 hB10
  clear s0 s1 s2 s3 s4
  obtain ⟨⟨s0, s1, s2, s3, s4⟩, _, _⟩ := id bx11
  go_wp2_with fail
  refine (HN.out _).mono ?_
  rintro e w12 ⟨rfl, hb12⟩
  have bx12 := Box.below bx11 hb12
  have hB12 : Below w.heap.size w w12 := Below.step hB11 hb12
  clear hb12 bx11 hB11
  clear s0 s1 s2 s3 s4
  obtain ⟨⟨s0, s1, s2, s3, s4⟩, _, _⟩ := id bx12
  go_wp2
  go_ret
  exact ⟨rfl, hB12⟩
set_option maxRecDepth 100000 in
set_option maxHeartbeats 4000000 in
theorem main_bad_N (k g l f X a0 a2 a3 a4 : Int) (b a1 : Bool) (s : ByteArray) (w : World) (h1 : k < 5) (n1 : k ≠ 1) (n2 : k ≠ 2) (n3 : k ≠ 3) (n4 : k ≠ 4)
   (j : Nat) (hW : ∀ w, Calls Try.prog 23 #[.agg #[.int .i64 k, .bool b, .int .i64 g, .int .i64 l, .int .i64 f]] w (PackBad j w)) (hR : ∀ w, Calls Try.prog 24 #[.agg #[.int .i64 k, .bool b, .int .i64 g, .int .i64 l, .int .i64 f]] w fun e w' => e = .returned (.tuple #[.int .u64 0, .int .i64 5]) ∧ Below w.heap.size w w')
   (hA : ∀ w, Calls Try.prog 25 #[.int .u64 X] w fun e w' => e = .returned (.agg #[.int .i64 a0, .bool a1, .int .i64 a2, .int .i64 a3, .int .i64 a4]) ∧ Below w.heap.size w w') (hB : ∀ w, Calls Try.prog 26 #[.int .u64 X] w fun e w' => e = .returned (.agg #[.int .i64 a0, .bool a1, .int .i64 a2, .int .i64 a3, .int .i64 a4]) ∧ Below w.heap.size w w')
   (hK : ∀ w, Calls Try.prog 34 #[.agg #[.int .i64 k, .bool b, .int .i64 g, .int .i64 l, .int .i64 f]] w fun e w' => e = .returned (.string s) ∧ Below w.heap.size w w') (hN : ∀ w, Calls Try.prog 35 #[.int .i64 k] w fun e w' => e = .returned (.string s) ∧ Below w.heap.size w w') :
    Calls Try.prog 5 #[.agg #[.int .i64 k, .bool b, .int .i64 g, .int .i64 l, .int .i64 f], .int .u64 X] w fun e w' => e = .returned (.bool true) ∧ Below w.heap.size w w' := by
  have HW := Lib.hid hW
  have HR := Lib.hid hR
  have HA := Lib.hid hA
  have HB := Lib.hid hB
  have HK := Lib.hid hK
  have HN := Lib.hid hN
  clear hW hR hA hB hK hN
  have Hloose := Lib.hid (fun w => looseN k g l f b w h1 n1 n2 n3 n4)
  have Hheld := Lib.hid (fun w => heldN k g l f b w h1 n1 n2 n3 n4)
  have Hlive := Lib.hid (fun w => liveN k g l f b w h1 n1 n2 n3 n4)
  have Hover := Lib.hid (fun w => overN k g l f b w h1 n1 n2 n3 n4)
  have Hrloose := Lib.hid (fun w => rlooseN k w h1 n1 n2 n3 n4)
  have Hrheld := Lib.hid (fun w => rheldN k w h1 n1 n2 n3 n4)
  have hd : decide (5 ≤ k) = false := decide_eq_false (by omega)
  clear h1 n1 n2 n3 n4
  go_enter Try.func5, Try.ntmps5
  have bx0 := Box.new w k g l f b
  go_wp2_with fail
  refine (HW.out _).mono ?_
  rintro e w1 ⟨y, rfl, hF1, hb1⟩
  have HF1 := Lib.hid hF1
  clear hF1
  have bx1 := bx0.below hb1
  have hB1 : Below w.heap.size w w1 := Below.step (by go_grown) hb1
  clear hb1
  obtain ⟨⟨s0, s1, s2, s3, s4⟩, _, _⟩ := id bx1
  go_wp2_with fail
  refine (HR.out _).mono ?_
  rintro e w2 ⟨rfl, hb2⟩
  have bx2 := bx1.below hb2
  have hB2 : Below w.heap.size w w2 := Below.step hB1 hb2
  have HF2 := Lib.hid (HF1.out.below hb2)
  clear hb2
  clear s0 s1 s2 s3 s4
  go_wp2_with fail
  refine region_sc (by kernel_rfl) (by kernel_rfl) ?_
  iterate 5 (first | go_big_quiet_skip | (go_big_quiet_want; go_big_quiet_op; first | go_big_quiet_on | (refine ⟨_, fun _ _ => rfl, ?_⟩; go_big_quiet_on)))
  go_big_quiet_want
  go_big_quiet_op
  refine ⟨_, fun wq hq => (num_at (by decide) (by decide) (HF2.out.below hq)).mono (fun _ _ ⟨he, hb⟩ => ⟨he, Below.step hq hb⟩), ?_⟩
  go_big_quiet_on
  iterate 15 (first | go_big_quiet_skip | (go_big_quiet_want; go_big_quiet_op; first | go_big_quiet_on | (refine ⟨_, fun _ _ => rfl, ?_⟩; go_big_quiet_on)))
  go_big_quiet_want
  go_big_quiet_op
  refine ⟨_, fun wq hq => Sc.call HA.out hq, ?_⟩
  go_big_quiet_on
  iterate 1 (first | go_big_quiet_skip | (go_big_quiet_want; go_big_quiet_op; first | go_big_quiet_on | (refine ⟨_, fun _ _ => rfl, ?_⟩; go_big_quiet_on)))
  go_big_quiet_want
  go_big_quiet_op
  refine ⟨_, fun wq hq => Sc.call HB.out hq, ?_⟩
  go_big_quiet_on
  iterate 2 (first | go_big_quiet_skip | (go_big_quiet_want; go_big_quiet_op; first | go_big_quiet_on | (refine ⟨_, fun _ _ => rfl, ?_⟩; go_big_quiet_on)))
  refine wpQuiet_nil ?_
  intro w3 hv
  have bx3 := Box.below bx2 hv
  have hB3 : Below w.heap.size w w3 := Below.step hB2 hv
  clear hv
  obtain ⟨⟨s0, s1, s2, s3, s4⟩, _, _⟩ := id bx3
  go_wp2_with fail
  refine (Hrloose.out _).mono ?_
  rintro e w4 ⟨rfl, hb4⟩
  have bx4 := Box.below bx3 hb4
  have hB4 : Below w.heap.size w w4 := Below.step hB3 hb4
  clear hb4 bx3 hB3
  clear s0 s1 s2 s3 s4
  obtain ⟨⟨s0, s1, s2, s3, s4⟩, _, _⟩ := id bx4
  go_wp2_with fail
  refine (Hrheld.out _).mono ?_
  rintro e w5 ⟨rfl, hb5⟩
  have bx5 := Box.below bx4 hb5
  have hB5 : Below w.heap.size w w5 := Below.step hB4 hb5
  clear hb5 bx4 hB4
  clear s0 s1 s2 s3 s4
  obtain ⟨⟨s0, s1, s2, s3, s4⟩, _, _⟩ := id bx5
  go_wp2_with fail
  refine ((fun w => awake06 w) _).mono ?_
  rintro e w6 ⟨rfl, hb6⟩
  have bx6 := Box.below bx5 hb6
  have hB6 : Below w.heap.size w w6 := Below.step hB5 hb6
  clear hb6 bx5 hB5
  clear s0 s1 s2 s3 s4
  obtain ⟨⟨s0, s1, s2, s3, s4⟩, _, _⟩ := id bx6
  go_wp2_with fail
  refine (Hloose.out _).mono ?_
  rintro e w7 ⟨rfl, hb7⟩
  have bx7 := Box.below bx6 hb7
  have hB7 : Below w.heap.size w w7 := Below.step hB6 hb7
  clear hb7 bx6 hB6
  clear s0 s1 s2 s3 s4
  obtain ⟨⟨s0, s1, s2, s3, s4⟩, _, _⟩ := id bx7
  go_wp2_with fail
  refine (Hheld.out _).mono ?_
  rintro e w8 ⟨rfl, hb8⟩
  have bx8 := Box.below bx7 hb8
  have hB8 : Below w.heap.size w w8 := Below.step hB7 hb8
  clear hb8 bx7 hB7
  clear s0 s1 s2 s3 s4
  obtain ⟨⟨s0, s1, s2, s3, s4⟩, _, _⟩ := id bx8
  go_wp2_with fail
  refine (Hlive.out _).mono ?_
  rintro e w9 ⟨rfl, hb9⟩
  have bx9 := Box.below bx8 hb9
  have hB9 : Below w.heap.size w w9 := Below.step hB8 hb9
  clear hb9 bx8 hB8
  clear s0 s1 s2 s3 s4
  obtain ⟨⟨s0, s1, s2, s3, s4⟩, _, _⟩ := id bx9
  go_wp2_with fail
  refine (Hover.out _).mono ?_
  rintro e w10 ⟨rfl, hb10⟩
  have bx10 := Box.below bx9 hb10
  have hB10 : Below w.heap.size w w10 := Below.step hB9 hb10
  clear hb10 bx9 hB9
  clear s0 s1 s2 s3 s4
  obtain ⟨⟨s0, s1, s2, s3, s4⟩, _, _⟩ := id bx10
  go_wp2_with fail
  refine (HK.out _).mono ?_
  rintro e w11 ⟨rfl, hb11⟩
  have bx11 := Box.below bx10 hb11
  have hB11 : Below w.heap.size w w11 := Below.step hB10 hb11
  clear hb11 bx10 hB10
  clear s0 s1 s2 s3 s4
  obtain ⟨⟨s0, s1, s2, s3, s4⟩, _, _⟩ := id bx11
  go_wp2_with fail
  refine (HN.out _).mono ?_
  rintro e w12 ⟨rfl, hb12⟩
  have bx12 := Box.below bx11 hb12
  have hB12 : Below w.heap.size w w12 := Below.step hB11 hb12
  clear hb12 bx11 hB11
  clear s0 s1 s2 s3 s4
  obtain ⟨⟨s0, s1, s2, s3, s4⟩, _, _⟩ := id bx12
  go_wp2
  go_ret
  exact ⟨rfl, hB12⟩
set_option maxRecDepth 100000 in
set_option maxHeartbeats 4000000 in
theorem main_bad_X (k g l f X a0 a2 a3 a4 : Int) (b a1 : Bool) (s : ByteArray) (w : World) (h1 : 8 < k)
   (j : Nat) (hW : ∀ w, Calls Try.prog 23 #[.agg #[.int .i64 k, .bool b, .int .i64 g, .int .i64 l, .int .i64 f]] w (PackBad j w)) (hR : ∀ w, Calls Try.prog 24 #[.agg #[.int .i64 k, .bool b, .int .i64 g, .int .i64 l, .int .i64 f]] w fun e w' => e = .returned (.tuple #[.int .u64 0, .int .i64 5]) ∧ Below w.heap.size w w')
   (hA : ∀ w, Calls Try.prog 25 #[.int .u64 X] w fun e w' => e = .returned (.agg #[.int .i64 a0, .bool a1, .int .i64 a2, .int .i64 a3, .int .i64 a4]) ∧ Below w.heap.size w w') (hB : ∀ w, Calls Try.prog 26 #[.int .u64 X] w fun e w' => e = .returned (.agg #[.int .i64 a0, .bool a1, .int .i64 a2, .int .i64 a3, .int .i64 a4]) ∧ Below w.heap.size w w')
   (hK : ∀ w, Calls Try.prog 34 #[.agg #[.int .i64 k, .bool b, .int .i64 g, .int .i64 l, .int .i64 f]] w fun e w' => e = .returned (.string s) ∧ Below w.heap.size w w') (hN : ∀ w, Calls Try.prog 35 #[.int .i64 k] w fun e w' => e = .returned (.string s) ∧ Below w.heap.size w w') :
    Calls Try.prog 5 #[.agg #[.int .i64 k, .bool b, .int .i64 g, .int .i64 l, .int .i64 f], .int .u64 X] w fun e w' => e = .returned (.bool true) ∧ Below w.heap.size w w' := by
  have HW := Lib.hid hW
  have HR := Lib.hid hR
  have HA := Lib.hid hA
  have HB := Lib.hid hB
  have HK := Lib.hid hK
  have HN := Lib.hid hN
  clear hW hR hA hB hK hN
  have Hloose := Lib.hid (fun w => looseX k g l f b w h1)
  have Hheld := Lib.hid (fun w => heldX k g l f b w h1)
  have Hlive := Lib.hid (fun w => liveX k g l f b w h1)
  have Hover := Lib.hid (fun w => overX k g l f b w h1)
  have Hrloose := Lib.hid (fun w => rlooseX k w h1)
  have Hrheld := Lib.hid (fun w => rheldX k w h1)
  have hd : decide (k ≤ 8) = false := decide_eq_false (by omega)
  have hd2 : 5 ≤ k := by omega
  go_enter Try.func5, Try.ntmps5
  have bx0 := Box.new w k g l f b
  go_wp2_with fail
  refine (HW.out _).mono ?_
  rintro e w1 ⟨y, rfl, hF1, hb1⟩
  have HF1 := Lib.hid hF1
  clear hF1
  have bx1 := bx0.below hb1
  have hB1 : Below w.heap.size w w1 := Below.step (by go_grown) hb1
  clear hb1
  obtain ⟨⟨s0, s1, s2, s3, s4⟩, _, _⟩ := id bx1
  go_wp2_with fail
  refine (HR.out _).mono ?_
  rintro e w2 ⟨rfl, hb2⟩
  have bx2 := bx1.below hb2
  have hB2 : Below w.heap.size w w2 := Below.step hB1 hb2
  have HF2 := Lib.hid (HF1.out.below hb2)
  clear hb2
  clear s0 s1 s2 s3 s4
  go_wp2_with fail
  refine region_sc (by kernel_rfl) (by kernel_rfl) ?_
  iterate 5 (first | go_big_quiet_skip | (go_big_quiet_want; go_big_quiet_op; first | go_big_quiet_on | (refine ⟨_, fun _ _ => rfl, ?_⟩; go_big_quiet_on)))
  go_big_quiet_want
  go_big_quiet_op
  refine ⟨_, fun wq hq => (num_at (by decide) (by decide) (HF2.out.below hq)).mono (fun _ _ ⟨he, hb⟩ => ⟨he, Below.step hq hb⟩), ?_⟩
  go_big_quiet_on
  iterate 15 (first | go_big_quiet_skip | (go_big_quiet_want; go_big_quiet_op; first | go_big_quiet_on | (refine ⟨_, fun _ _ => rfl, ?_⟩; go_big_quiet_on)))
  go_big_quiet_want
  go_big_quiet_op
  refine ⟨_, fun wq hq => Sc.call HA.out hq, ?_⟩
  go_big_quiet_on
  iterate 1 (first | go_big_quiet_skip | (go_big_quiet_want; go_big_quiet_op; first | go_big_quiet_on | (refine ⟨_, fun _ _ => rfl, ?_⟩; go_big_quiet_on)))
  go_big_quiet_want
  go_big_quiet_op
  refine ⟨_, fun wq hq => Sc.call HB.out hq, ?_⟩
  go_big_quiet_on
  iterate 2 (first | go_big_quiet_skip | (go_big_quiet_want; go_big_quiet_op; first | go_big_quiet_on | (refine ⟨_, fun _ _ => rfl, ?_⟩; go_big_quiet_on)))
  refine wpQuiet_nil ?_
  intro w3 hv
  have bx3 := Box.below bx2 hv
  have hB3 : Below w.heap.size w w3 := Below.step hB2 hv
  clear hv
  obtain ⟨⟨s0, s1, s2, s3, s4⟩, _, _⟩ := id bx3
  go_wp2_with fail
  refine (Hrloose.out _).mono ?_
  rintro e w4 ⟨rfl, hb4⟩
  have bx4 := Box.below bx3 hb4
  have hB4 : Below w.heap.size w w4 := Below.step hB3 hb4
  clear hb4 bx3 hB3
  clear s0 s1 s2 s3 s4
  obtain ⟨⟨s0, s1, s2, s3, s4⟩, _, _⟩ := id bx4
  go_wp2_with fail
  refine (Hrheld.out _).mono ?_
  rintro e w5 ⟨rfl, hb5⟩
  have bx5 := Box.below bx4 hb5
  have hB5 : Below w.heap.size w w5 := Below.step hB4 hb5
  clear hb5 bx4 hB4
  clear s0 s1 s2 s3 s4
  obtain ⟨⟨s0, s1, s2, s3, s4⟩, _, _⟩ := id bx5
  go_wp2_with fail
  refine ((fun w => awake06 w) _).mono ?_
  rintro e w6 ⟨rfl, hb6⟩
  have bx6 := Box.below bx5 hb6
  have hB6 : Below w.heap.size w w6 := Below.step hB5 hb6
  clear hb6 bx5 hB5
  clear s0 s1 s2 s3 s4
  obtain ⟨⟨s0, s1, s2, s3, s4⟩, _, _⟩ := id bx6
  go_wp2_with fail
  refine (Hloose.out _).mono ?_
  rintro e w7 ⟨rfl, hb7⟩
  have bx7 := Box.below bx6 hb7
  have hB7 : Below w.heap.size w w7 := Below.step hB6 hb7
  clear hb7 bx6 hB6
  clear s0 s1 s2 s3 s4
  obtain ⟨⟨s0, s1, s2, s3, s4⟩, _, _⟩ := id bx7
  go_wp2_with fail
  refine (Hheld.out _).mono ?_
  rintro e w8 ⟨rfl, hb8⟩
  have bx8 := Box.below bx7 hb8
  have hB8 : Below w.heap.size w w8 := Below.step hB7 hb8
  clear hb8 bx7 hB7
  clear s0 s1 s2 s3 s4
  obtain ⟨⟨s0, s1, s2, s3, s4⟩, _, _⟩ := id bx8
  go_wp2_with fail
  refine (Hlive.out _).mono ?_
  rintro e w9 ⟨rfl, hb9⟩
  have bx9 := Box.below bx8 hb9
  have hB9 : Below w.heap.size w w9 := Below.step hB8 hb9
  clear hb9 bx8 hB8
  clear s0 s1 s2 s3 s4
  obtain ⟨⟨s0, s1, s2, s3, s4⟩, _, _⟩ := id bx9
  go_wp2_with fail
  refine (Hover.out _).mono ?_
  rintro e w10 ⟨rfl, hb10⟩
  have bx10 := Box.below bx9 hb10
  have hB10 : Below w.heap.size w w10 := Below.step hB9 hb10
  clear hb10 bx9 hB9
  clear s0 s1 s2 s3 s4
  obtain ⟨⟨s0, s1, s2, s3, s4⟩, _, _⟩ := id bx10
  go_wp2_with fail
  refine (HK.out _).mono ?_
  rintro e w11 ⟨rfl, hb11⟩
  have bx11 := Box.below bx10 hb11
  have hB11 : Below w.heap.size w w11 := Below.step hB10 hb11
  clear hb11 bx10 hB10
  clear s0 s1 s2 s3 s4
  obtain ⟨⟨s0, s1, s2, s3, s4⟩, _, _⟩ := id bx11
  go_wp2_with fail
  refine (HN.out _).mono ?_
  rintro e w12 ⟨rfl, hb12⟩
  have bx12 := Box.below bx11 hb12
  have hB12 : Below w.heap.size w w12 := Below.step hB11 hb12
  clear hb12 bx11 hB11
  clear s0 s1 s2 s3 s4
  obtain ⟨⟨s0, s1, s2, s3, s4⟩, _, _⟩ := id bx12
  go_wp2
  go_ret
  exact ⟨rfl, hB12⟩
theorem walk (a0_0 : Int) (a0_1 : Bool) (a0_2 : Int) (a0_3 : Int) (a0_4 : Int) (a1 : Int) (w : World) (w0_0 : (Lit.int .i64 a0_0).wf = true) (w0_2 : (Lit.int .i64 a0_2).wf = true) (w0_3 : (Lit.int .i64 a0_3).wf = true) (w0_4 : (Lit.int .i64 a0_4).wf = true) (w1 : (Lit.int .u64 a1).wf = true) :
    Calls Try.prog 5 #[.agg #[.int .i64 a0_0, .bool a0_1, .int .i64 a0_2, .int .i64 a0_3, .int .i64 a0_4], .int .u64 a1] w fun e w' => e = .returned (.bool true) ∧ Below w.heap.size w w' := by
  have b1 := bounds_u64 w1
  obtain ⟨X, rfl⟩ : ∃ X : Nat, a1 = X := ⟨a1.toNat, by omega⟩
  obtain ⟨s, hK, hN⟩ := kind_two a0_0 a0_2 a0_3 a0_4 a0_1
  obtain ⟨y0, y2, y3, y4, y1, hA, hB⟩ := state_two X (by omega)
  rcases word_two a0_0 a0_2 a0_3 a0_4 a0_1 (bounds_i64 w0_0) (bounds_i64 w0_2) (bounds_i64 w0_3) (bounds_i64 w0_4) with ⟨hk, Y, hW, hR, hS⟩ | ⟨j, hW, hR⟩
  · by_cases k1 : a0_0 = 1
    · subst k1; exact main_ok_L1 _ _ _ _ _ _ _ _ _ _ _ _ w hW hR hS hA hB hK hN
    by_cases k2 : a0_0 = 2
    · subst k2; exact main_ok_L2 _ _ _ _ _ _ _ _ _ _ _ _ w hW hR hS hA hB hK hN
    by_cases k3 : a0_0 = 3
    · subst k3; exact main_ok_H3 _ _ _ _ _ _ _ _ _ _ _ _ w hW hR hS hA hB hK hN
    by_cases k4 : a0_0 = 4
    · subst k4; exact main_ok_H4 _ _ _ _ _ _ _ _ _ _ _ _ w hW hR hS hA hB hK hN
    by_cases h5 : a0_0 < 5
    · exact main_ok_N _ _ _ _ _ _ _ _ _ _ _ _ _ w h5 k1 k2 k3 k4 hW hR hS hA hB hK hN
    · exact main_ok_O _ _ _ _ _ _ _ _ _ _ _ _ _ w (by omega) hk hW hR hS hA hB hK hN
  · by_cases k1 : a0_0 = 1
    · subst k1; exact main_bad_L1 _ _ _ _ _ _ _ _ _ _ _ w j hW hR hA hB hK hN
    by_cases k2 : a0_0 = 2
    · subst k2; exact main_bad_L2 _ _ _ _ _ _ _ _ _ _ _ w j hW hR hA hB hK hN
    by_cases k3 : a0_0 = 3
    · subst k3; exact main_bad_H3 _ _ _ _ _ _ _ _ _ _ _ w j hW hR hA hB hK hN
    by_cases k4 : a0_0 = 4
    · subst k4; exact main_bad_H4 _ _ _ _ _ _ _ _ _ _ _ w j hW hR hA hB hK hN
    by_cases h5 : a0_0 < 5
    · exact main_bad_N _ _ _ _ _ _ _ _ _ _ _ _ w h5 k1 k2 k3 k4 j hW hR hA hB hK hN
    by_cases h8 : a0_0 ≤ 8
    · exact main_bad_O _ _ _ _ _ _ _ _ _ _ _ _ w (by omega) h8 j hW hR hA hB hK hN
    · exact main_bad_X _ _ _ _ _ _ _ _ _ _ _ _ w (by omega) j hW hR hA hB hK hN
end Go.Proofs.Ytgeognijglahfaa.cellWords

/-
  The walk of RecordWords.
-/
import Derived.Test.YtgeognijglahfaaRows
import Derived.WalkKit
import Derived.ProofKit
import Derived.OpenShut
import Derived.ShutString
import Derived.Below
import Derived.Outline
import Derived.WalkLawsBesides
import Derived.WalkSpells
import Derived.Handy
import Derived.Deep.QuietTactic
import Derived.BigQuiet
import Derived.RegionTactic
import Derived.ChangeAlike
import Derived.Lib.Hide
import Derived.Laws.Rows
import Derived.Laws.Tables
import Derived.Laws.CopyOwn
import Derived.Deep.WholeRow
import Derived.Deep.LoopGhost
import Derived.Laws.BitsAllLaws
import Derived.Laws.BitsLemmas
import Derived.IntWalk
import Derived.Test.YtgeognijglahfaaKit
import Derived.Test.YtgeognijglahfaaLay
import Derived.Test.YtgeognijglahfaaAny
import Derived.Test.YtgeognijglahfaaGet
import Derived.Test.YtgeognijglahfaaWithM
import Derived.Test.YtgeognijglahfaaIs
import Derived.Deep.RegionHeld3
import Derived.Deep.Cut
import Derived.Deep.CutRange
import Derived.Deep.DeepCutAuto
import Derived.Deep.CutBlock
import Derived.Deep.RegionLaw
import Derived.Test.YtgeognijglahfaaQuiet
import Derived.Test.YtgeognijglahfaaNumF
import Derived.Test.YtgeognijglahfaaWith
import Derived.Test.YtgeognijglahfaaWithM
import Derived.Test.YtgeognijglahfaaRefTwo
import Derived.Test.YtgeognijglahfaaAwakeB
import Derived.Test.YtgeognijglahfaaLayouts
import Derived.Test.YtgeognijglahfaaGive
import Derived.Test.YtgeognijglahfaaBox
import Derived.Test.YtgeognijglahfaaStates
import Derived.Test.YtgeognijglahfaaWords
import Derived.Test.YtgeognijglahfaaFlags
import Derived.Test.YtgeognijglahfaaHold
namespace Go.Proofs.Ytgeognijglahfaa.recordWords
open Go.ChangeShapes Go.WideShapes Go.ChangeAt Go.RowKit
theorem fld_word {n : Nat} {s z : Nat → Int} (hS : Steps n s) (hz : ∀ k, k < n → 0 ≤ z k ∧ z k < 2 ^ (s (k + 1) - s k).toNat) : ∀ k, k < n → fld s (word s z n) k = z k :=
  word_inj hS (fun k _ => fld_fit (n := n) (s := s) _ k) hz n (Nat.le_refl _) ((word_fld hS (word s z n) n (Nat.le_refl _)).trans (Nat.mod_eq_of_lt (word_lt hS hz n (Nat.le_refl _))))
theorem bounds_rz (k q p t c g : Int) (hk : -9223372036854775808 ≤ k ∧ k ≤ 9223372036854775807) (hq : -9223372036854775808 ≤ q ∧ q ≤ 9223372036854775807) (hp : -9223372036854775808 ≤ p ∧ p ≤ 9223372036854775807) (ht : -9223372036854775808 ≤ t ∧ t ≤ 9223372036854775807) (hc : -9223372036854775808 ≤ c ∧ c ≤ 9223372036854775807) (hg : -9223372036854775808 ≤ g ∧ g ≤ 9223372036854775807) : ∀ j, j < 6 → -9223372036854775808 ≤ rz k q p t c g j ∧ rz k q p t c g j ≤ 9223372036854775807 := fun j hj => by
  match j, hj with
  | 0, _ => exact hk
  | 1, _ => exact hq
  | 2, _ => exact hp
  | 3, _ => exact ht
  | 4, _ => exact hc
  | 5, _ => exact hg
theorem word_two (k q p t c g : Int) (hk : -9223372036854775808 ≤ k ∧ k ≤ 9223372036854775807) (hq : -9223372036854775808 ≤ q ∧ q ≤ 9223372036854775807) (hp : -9223372036854775808 ≤ p ∧ p ≤ 9223372036854775807) (ht : -9223372036854775808 ≤ t ∧ t ≤ 9223372036854775807) (hc : -9223372036854775808 ≤ c ∧ c ≤ 9223372036854775807) (hg : -9223372036854775808 ≤ g ∧ g ≤ 9223372036854775807) :
    (∃ X : Nat, (∀ w, Calls Try.prog 47 #[.agg #[.int .i64 k, .int .i64 q, .int .i64 p, .int .i64 t, .int .i64 c, .int .i64 g]] w fun e w' => e = .returned (.tuple #[.int .u64 (X : Int), .nilIface]) ∧ Below w.heap.size w w') ∧ (∀ w, Calls Try.prog 48 #[.agg #[.int .i64 k, .int .i64 q, .int .i64 p, .int .i64 t, .int .i64 c, .int .i64 g]] w fun e w' => e = .returned (.tuple #[.int .u64 (X : Int), .int .i64 0]) ∧ Below w.heap.size w w') ∧ (∀ w, Calls Try.prog 49 #[.int .u64 (X : Int)] w fun e w' => e = .returned (.agg #[.int .i64 k, .int .i64 q, .int .i64 p, .int .i64 t, .int .i64 c, .int .i64 g]) ∧ Below w.heap.size w w')) ∨
    (∃ j : Nat, (∀ w, Calls Try.prog 47 #[.agg #[.int .i64 k, .int .i64 q, .int .i64 p, .int .i64 t, .int .i64 c, .int .i64 g]] w (PackBad j w)) ∧ (∀ w, Calls Try.prog 48 #[.agg #[.int .i64 k, .int .i64 q, .int .i64 p, .int .i64 t, .int .i64 c, .int .i64 g]] w fun e w' => e = .returned (.tuple #[.int .u64 0, .int .i64 5]) ∧ Below w.heap.size w w')) := by
  by_cases h : 5 < k
  · exact .inr ⟨0, fun w => wordR_high k q p t c g w h, fun w => rwordR_high k q p t c g w h⟩
  have hk9 : k ≤ 5 := by omega
  have hb := bounds_rz k q p t c g hk hq hp ht hc hg
  by_cases hf : FitsR (rz k q p t c g)
  · have hl := word_lt shr_steps hf 6 (Nat.le_refl _)
    have hX : word shr (rz k q p t c g) 6 < 18446744073709551616 := Nat.lt_of_lt_of_le hl (Nat.pow_le_pow_right (by decide) (by decide : (shr 6).toNat ≤ 64))
    have e := fld_word shr_steps hf
    refine .inl ⟨word shr (rz k q p t c g) 6, fun w => wordR_ok k q p t c g w hk9 hb hf, fun w => rwordR_ok k q p t c g w hk9 hb hf, fun w => ?_⟩
    have h9 := ofR_is (word shr (rz k q p t c g) 6) hX w
    rw [e 0 (by decide), e 1 (by decide), e 2 (by decide), e 3 (by decide), e 4 (by decide), e 5 (by decide)] at h9
    exact h9
  · obtain ⟨j, hj, h5, h6⟩ := least (fun j => 0 ≤ (rz k q p t c g) j ∧ (rz k q p t c g) j < 2 ^ (shr (j + 1) - shr j).toNat) 6 hf
    exact .inr ⟨j, fun w => wordR_bad k q p t c g w hk9 hb j hj h5 h6, fun w => rwordR_bad k q p t c g w hk9 hb j hj h5 h6⟩
theorem of_two (x : Nat) (hx : x < 18446744073709551616) : ∃ (a0 a1 a2 a3 a4 a5 : Int), (∀ w, Calls Try.prog 49 #[.int .u64 (x : Int)] w fun e w' => e = .returned (.agg #[.int .i64 a0, .int .i64 a1, .int .i64 a2, .int .i64 a3, .int .i64 a4, .int .i64 a5]) ∧ Below w.heap.size w w') ∧ (∀ w, Calls Try.prog 50 #[.int .u64 (x : Int)] w fun e w' => e = .returned (.agg #[.int .i64 a0, .int .i64 a1, .int .i64 a2, .int .i64 a3, .int .i64 a4, .int .i64 a5]) ∧ Below w.heap.size w w') :=
  ⟨_, _, _, _, _, _, fun w => ofR_is x hx w, fun w => rofR_is x hx w⟩
theorem end_two (sk sg sl sf tick : Int) (sb : Bool) : ∃ (r0 r1 r2 r3 : Int) (ok : Bool), (∀ w, Calls Try.prog 51 #[.agg #[.int .i64 sk, .bool sb, .int .i64 sg, .int .i64 sl, .int .i64 sf], .int .i64 tick] w fun e w' => e = .returned (.tuple #[.agg #[.int .i64 r0, .int .i64 r1, .int .i64 r2, .int .i64 r3, .int .i64 0, .int .i64 0], .bool ok]) ∧ Below w.heap.size w w') ∧ (∀ w, Calls Try.prog 52 #[.agg #[.int .i64 sk, .bool sb, .int .i64 sg, .int .i64 sl, .int .i64 sf], .int .i64 tick] w fun e w' => e = .returned (.tuple #[.agg #[.int .i64 r0, .int .i64 r1, .int .i64 r2, .int .i64 r3, .int .i64 0, .int .i64 0], .bool ok]) ∧ Below w.heap.size w w') ∧ (∀ w, Calls Try.prog 54 #[.agg #[.int .i64 r0, .int .i64 r1, .int .i64 r2, .int .i64 r3, .int .i64 0, .int .i64 0]] w fun e w' => e = .returned (.bool ok) ∧ Below w.heap.size w w') := by
  by_cases h1 : sk < 5
  · exact ⟨_, _, _, _, _, fun w => end_low sk sg sl sf tick sb w h1, fun w => rend_low sk sg sl sf tick sb w h1, fun w => isend_low 0 0 0 0 0 0 w (by decide)⟩
  by_cases h2 : 8 < sk
  · exact ⟨_, _, _, _, _, fun w => end_high sk sg sl sf tick sb w h2, fun w => rend_high sk sg sl sf tick sb w h2, fun w => isend_low 0 0 0 0 0 0 w (by decide)⟩
  · exact ⟨_, _, _, _, _, fun w => end_yes sk sg sl sf tick sb w (by omega) (by omega), fun w => rend_yes sk sg sl sf tick sb w (by omega) (by omega), fun w => isend_yes (sk - 3) sl sf tick 0 0 w (by omega) (by omega)⟩
set_option maxHeartbeats 1000000 in
theorem awake08 (w : World) : Calls Try.prog 53 #[] w fun e w' => e = .returned (.bool true) ∧ Below w.heap.size w w' := by
  have HE := Lib.hid (fun W => show Calls Try.prog 51 #[.agg #[.int .i64 6, .bool false, .int .i64 0, .int .i64 3, .int .i64 1], .int .i64 9] W fun e w' => e = .returned (.tuple #[.agg #[.int .i64 3, .int .i64 3, .int .i64 1, .int .i64 9, .int .i64 0, .int .i64 0], .bool true]) ∧ Below W.heap.size W w' from end_yes 6 0 3 1 9 false W (by decide) (by decide))
  go_enter Try.func53, Try.ntmps53
  go_wp2_with fail
  refine (HE.out _).mono ?_
  rintro e w1 ⟨rfl, hb1⟩
  have hs1 := hb1.size
  go_wp2
  go_ret
  exact ⟨rfl, by go_grown⟩
set_option maxRecDepth 100000 in
set_option maxHeartbeats 4000000 in
theorem main_ok (k q p t c g X Y a0 a1 a2 a3 a4 a5 sk sg sl sf tick r0 r1 r2 r3 : Int) (sb ok : Bool) (s : ByteArray) (w : World)
   (hW : ∀ w, Calls Try.prog 47 #[.agg #[.int .i64 k, .int .i64 q, .int .i64 p, .int .i64 t, .int .i64 c, .int .i64 g]] w fun e w' => e = .returned (.tuple #[.int .u64 Y, .nilIface]) ∧ Below w.heap.size w w') (hR : ∀ w, Calls Try.prog 48 #[.agg #[.int .i64 k, .int .i64 q, .int .i64 p, .int .i64 t, .int .i64 c, .int .i64 g]] w fun e w' => e = .returned (.tuple #[.int .u64 Y, .int .i64 0]) ∧ Below w.heap.size w w') (hS : ∀ w, Calls Try.prog 49 #[.int .u64 Y] w fun e w' => e = .returned (.agg #[.int .i64 k, .int .i64 q, .int .i64 p, .int .i64 t, .int .i64 c, .int .i64 g]) ∧ Below w.heap.size w w')
   (hA : ∀ w, Calls Try.prog 49 #[.int .u64 X] w fun e w' => e = .returned (.agg #[.int .i64 a0, .int .i64 a1, .int .i64 a2, .int .i64 a3, .int .i64 a4, .int .i64 a5]) ∧ Below w.heap.size w w') (hB : ∀ w, Calls Try.prog 50 #[.int .u64 X] w fun e w' => e = .returned (.agg #[.int .i64 a0, .int .i64 a1, .int .i64 a2, .int .i64 a3, .int .i64 a4, .int .i64 a5]) ∧ Below w.heap.size w w')
   (hC : ∀ w, Calls Try.prog 51 #[.agg #[.int .i64 sk, .bool sb, .int .i64 sg, .int .i64 sl, .int .i64 sf], .int .i64 tick] w fun e w' => e = .returned (.tuple #[.agg #[.int .i64 r0, .int .i64 r1, .int .i64 r2, .int .i64 r3, .int .i64 0, .int .i64 0], .bool ok]) ∧ Below w.heap.size w w') (hD : ∀ w, Calls Try.prog 52 #[.agg #[.int .i64 sk, .bool sb, .int .i64 sg, .int .i64 sl, .int .i64 sf], .int .i64 tick] w fun e w' => e = .returned (.tuple #[.agg #[.int .i64 r0, .int .i64 r1, .int .i64 r2, .int .i64 r3, .int .i64 0, .int .i64 0], .bool ok]) ∧ Below w.heap.size w w') (hE : ∀ w, Calls Try.prog 54 #[.agg #[.int .i64 r0, .int .i64 r1, .int .i64 r2, .int .i64 r3, .int .i64 0, .int .i64 0]] w fun e w' => e = .returned (.bool ok) ∧ Below w.heap.size w w')
   (hK : ∀ w, Calls Try.prog 55 #[.int .i64 k] w fun e w' => e = .returned (.string s) ∧ Below w.heap.size w w') (hN : ∀ w, Calls Try.prog 56 #[.int .i64 k] w fun e w' => e = .returned (.string s) ∧ Below w.heap.size w w') :
    Calls Try.prog 7 #[.agg #[.int .i64 k, .int .i64 q, .int .i64 p, .int .i64 t, .int .i64 c, .int .i64 g], .int .u64 X, .agg #[.int .i64 sk, .bool sb, .int .i64 sg, .int .i64 sl, .int .i64 sf], .int .i64 tick] w fun e w' => e = .returned (.bool true) ∧ Below w.heap.size w w' := by
  have HW_ := Lib.hid hW
  have HR_ := Lib.hid hR
  have HA_ := Lib.hid hA
  have HB_ := Lib.hid hB
  have HC_ := Lib.hid hC
  have HD_ := Lib.hid hD
  have HE_ := Lib.hid hE
  have HK_ := Lib.hid hK
  have HN_ := Lib.hid hN
  have HS_ := Lib.hid hS
  clear hW hR hA hB hC hD hE hK hN hS
  have bx0 : Blk6 w.heap.size (.int .i64 k) (.int .i64 q) (.int .i64 p) (.int .i64 t) (.int .i64 c) (.int .i64 g) (w.alloc (.cells #[.int .i64 k, .int .i64 q, .int .i64 p, .int .i64 t, .int .i64 c, .int .i64 g] 71)) := ⟨⟨by simp [go_sem], by simp [go_sem], by simp [go_sem], by simp [go_sem], by simp [go_sem], by simp [go_sem]⟩, ⟨by simp [go_sem], by simp [go_sem], by simp [go_sem], by simp [go_sem], by simp [go_sem], by simp [go_sem]⟩, by simp⟩
  have bx1 := Blk6.below bx0 (show Below (w.alloc (.cells #[.int .i64 k, .int .i64 q, .int .i64 p, .int .i64 t, .int .i64 c, .int .i64 g] 71)).heap.size (w.alloc (.cells #[.int .i64 k, .int .i64 q, .int .i64 p, .int .i64 t, .int .i64 c, .int .i64 g] 71)) ((w.alloc (.cells #[.int .i64 k, .int .i64 q, .int .i64 p, .int .i64 t, .int .i64 c, .int .i64 g] 71)).alloc (.cells #[.int .i64 sk, .bool sb, .int .i64 sg, .int .i64 sl, .int .i64 sf] 52)) from by go_grown)
  have by1 : Blk5 (w.heap.size + 1) (.int .i64 sk) (.bool sb) (.int .i64 sg) (.int .i64 sl) (.int .i64 sf) ((w.alloc (.cells #[.int .i64 k, .int .i64 q, .int .i64 p, .int .i64 t, .int .i64 c, .int .i64 g] 71)).alloc (.cells #[.int .i64 sk, .bool sb, .int .i64 sg, .int .i64 sl, .int .i64 sf] 52)) := ⟨⟨by simp [go_sem], by simp [go_sem], by simp [go_sem], by simp [go_sem], by simp [go_sem]⟩, ⟨by simp [go_sem], by simp [go_sem], by simp [go_sem], by simp [go_sem], by simp [go_sem]⟩, by simp⟩
  clear bx0
  go_enter Try.func7, Try.ntmps7
  go_wp2_with fail
  refine (HW_.out _).mono ?_
  rintro e w1 ⟨rfl, hb1⟩
  have bx2 := Blk6.below bx1 hb1
  have by2 := Blk5.below by1 hb1
  have hB1 : Below w.heap.size w w1 := Below.step (by go_grown) hb1
  clear hb1
  obtain ⟨⟨s0, s1, s2, s3, s4, s5⟩, _, _⟩ := id bx2
  go_wp2_with fail
  refine (HR_.out _).mono ?_
  rintro e w2 ⟨rfl, hb2⟩
  have bx3 := Blk6.below bx2 hb2
  have by3 := Blk5.below by2 hb2
  have hB2 : Below w.heap.size w w2 := Below.step hB1 hb2
  clear hb2
  clear s0 s1 s2 s3 s4 s5
  go_wp2_with fail
  refine region_sc (by kernel_rfl) (by kernel_rfl) ?_
  iterate 5 (first | go_big_quiet_skip | (go_big_quiet_want; go_big_quiet_op; first | go_big_quiet_on | (refine ⟨_, fun _ _ => rfl, ?_⟩; go_big_quiet_on)))
  go_big_quiet_want
  go_big_quiet_op
  refine ⟨_, fun wq hq => Sc.call (fun w => num_nil w) hq, ?_⟩
  go_big_quiet_on
  iterate 8 (first | go_big_quiet_skip | (go_big_quiet_want; go_big_quiet_op; first | go_big_quiet_on | (refine ⟨_, fun _ _ => rfl, ?_⟩; go_big_quiet_on)))
  go_big_quiet_want
  go_big_quiet_op
  refine ⟨_, fun wq hq => Sc.call HS_.out hq, ?_⟩
  go_big_quiet_on
  go_big_quiet_want
  refine ⟨.agg #[.int .i64 k, .int .i64 q, .int .i64 p, .int .i64 t, .int .i64 c, .int .i64 g], fun wq hq => ?_, ?_⟩
  · obtain ⟨⟨q0, q1, q2, q3, q4, q5⟩, _, _⟩ := Blk6.below bx3 hq
    unfold Oper.quietAt
    simp [go_sem, q0, q1, q2, q3, q4, q5, Oper.quietUpon]
  simp only [Act.put, List.setIfInBounds_toArray, List.set_cons_zero, List.set_cons_succ]
  go_big_quiet_on
  iterate 5 (first | go_big_quiet_skip | (go_big_quiet_want; go_big_quiet_op; first | go_big_quiet_on | (refine ⟨_, fun _ _ => rfl, ?_⟩; go_big_quiet_on)))
  go_big_quiet_want
  go_big_quiet_op
  refine ⟨_, fun wq hq => Sc.call HA_.out hq, ?_⟩
  go_big_quiet_on
  iterate 1 (first | go_big_quiet_skip | (go_big_quiet_want; go_big_quiet_op; first | go_big_quiet_on | (refine ⟨_, fun _ _ => rfl, ?_⟩; go_big_quiet_on)))
  go_big_quiet_want
  go_big_quiet_op
  refine ⟨_, fun wq hq => Sc.call HB_.out hq, ?_⟩
  go_big_quiet_on
  iterate 2 (first | go_big_quiet_skip | (go_big_quiet_want; go_big_quiet_op; first | go_big_quiet_on | (refine ⟨_, fun _ _ => rfl, ?_⟩; go_big_quiet_on)))
  refine wpQuiet_nil ?_
  intro w3 hv
  have bx4 := Blk6.below bx3 hv
  have by4 := Blk5.below by3 hv
  have hB3 : Below w.heap.size w w3 := Below.step hB2 hv
  clear hv
  obtain ⟨⟨u0, u1, u2, u3, u4⟩, _, _⟩ := id by4
  go_wp2_with fail
  refine (HC_.out _).mono ?_
  rintro e w4 ⟨rfl, hb4⟩
  have bx5 := Blk6.below bx4 hb4
  have by5 := Blk5.below by4 hb4
  have hB4 : Below w.heap.size w w4 := Below.step hB3 hb4
  clear hb4
  clear u0 u1 u2 u3 u4
  obtain ⟨⟨u0, u1, u2, u3, u4⟩, _, _⟩ := id by5
  have hl5 : w.heap.size + 1 < w4.heap.size := by5.2.2
  have bc5 : Blk6 w4.heap.size (.int .i64 r0) (.int .i64 r1) (.int .i64 r2) (.int .i64 r3) (.int .i64 0) (.int .i64 0) (w4.alloc (.cells #[.int .i64 r0, .int .i64 r1, .int .i64 r2, .int .i64 r3, .int .i64 0, .int .i64 0] 71)) := ⟨⟨by simp [go_sem], by simp [go_sem], by simp [go_sem], by simp [go_sem], by simp [go_sem], by simp [go_sem]⟩, ⟨by simp [go_sem], by simp [go_sem], by simp [go_sem], by simp [go_sem], by simp [go_sem], by simp [go_sem]⟩, by simp⟩
  go_wp2_with fail
  refine (HD_.out _).mono ?_
  rintro e w5 ⟨rfl, hb5⟩
  have bx6 := Blk6.below (Blk6.below bx5 (show Below w4.heap.size w4 (w4.alloc (.cells #[.int .i64 r0, .int .i64 r1, .int .i64 r2, .int .i64 r3, .int .i64 0, .int .i64 0] 71)) from by go_grown)) hb5
  have bc6 := Blk6.below bc5 hb5
  have hB5 : Below w.heap.size w w5 := Below.step (by go_grown) hb5
  clear hb5
  clear u0 u1 u2 u3 u4
  go_upto_region 7 with fail
  have bd7 : Blk6 w5.heap.size (.int .i64 r0) (.int .i64 r1) (.int .i64 r2) (.int .i64 r3) (.int .i64 0) (.int .i64 0) (w5.alloc (.cells #[.int .i64 r0, .int .i64 r1, .int .i64 r2, .int .i64 r3, .int .i64 0, .int .i64 0] 71)) := ⟨⟨by simp [go_sem], by simp [go_sem], by simp [go_sem], by simp [go_sem], by simp [go_sem], by simp [go_sem]⟩, ⟨by simp [go_sem], by simp [go_sem], by simp [go_sem], by simp [go_sem], by simp [go_sem], by simp [go_sem]⟩, by simp⟩
  have bx7 := Blk6.below bx6 (show Below w5.heap.size w5 (w5.alloc (.cells #[.int .i64 r0, .int .i64 r1, .int .i64 r2, .int .i64 r3, .int .i64 0, .int .i64 0] 71)) from by go_grown)
  have bc7 := Blk6.below bc6 (show Below w5.heap.size w5 (w5.alloc (.cells #[.int .i64 r0, .int .i64 r1, .int .i64 r2, .int .i64 r3, .int .i64 0, .int .i64 0] 71)) from by go_grown)
  have hB7 : Below w.heap.size w (w5.alloc (.cells #[.int .i64 r0, .int .i64 r1, .int .i64 r2, .int .i64 r3, .int .i64 0, .int .i64 0] 71)) := hB5.alloc hB5.size _
  generalize (w5.alloc (.cells #[.int .i64 r0, .int .i64 r1, .int .i64 r2, .int .i64 r3, .int .i64 0, .int .i64 0] 71)) = w7 at bd7 bx7 bc7 hB7 ⊢
  refine region_sc (by kernel_rfl) (by kernel_rfl) ?_
  go_big_quiet_want
  go_big_quiet_op
  refine ⟨_, fun wq hq => Sc.call (fun w => awake08 w) hq, ?_⟩
  go_big_quiet_on
  iterate 1 (first | go_big_quiet_skip | (go_big_quiet_want; go_big_quiet_op; first | go_big_quiet_on | (refine ⟨_, fun _ _ => rfl, ?_⟩; go_big_quiet_on)))
  go_big_quiet_want
  refine ⟨.agg #[.int .i64 r0, .int .i64 r1, .int .i64 r2, .int .i64 r3, .int .i64 0, .int .i64 0], fun wq hq => ?_, ?_⟩
  · obtain ⟨⟨q0, q1, q2, q3, q4, q5⟩, _, _⟩ := Blk6.below bc7 hq
    unfold Oper.quietAt
    simp [go_sem, q0, q1, q2, q3, q4, q5, Oper.quietUpon]
  simp only [Act.put, List.setIfInBounds_toArray, List.set_cons_zero, List.set_cons_succ]
  go_big_quiet_on
  go_big_quiet_want
  refine ⟨.agg #[.int .i64 r0, .int .i64 r1, .int .i64 r2, .int .i64 r3, .int .i64 0, .int .i64 0], fun wq hq => ?_, ?_⟩
  · obtain ⟨⟨q0, q1, q2, q3, q4, q5⟩, _, _⟩ := Blk6.below bd7 hq
    unfold Oper.quietAt
    simp [go_sem, q0, q1, q2, q3, q4, q5, Oper.quietUpon]
  simp only [Act.put, List.setIfInBounds_toArray, List.set_cons_zero, List.set_cons_succ]
  go_big_quiet_on
  iterate 8 (first | go_big_quiet_skip | (go_big_quiet_want; go_big_quiet_op; first | go_big_quiet_on | (refine ⟨_, fun _ _ => rfl, ?_⟩; go_big_quiet_on)))
  go_big_quiet_want
  refine ⟨.agg #[.int .i64 r0, .int .i64 r1, .int .i64 r2, .int .i64 r3, .int .i64 0, .int .i64 0], fun wq hq => ?_, ?_⟩
  · obtain ⟨⟨q0, q1, q2, q3, q4, q5⟩, _, _⟩ := Blk6.below bc7 hq
    unfold Oper.quietAt
    simp [go_sem, q0, q1, q2, q3, q4, q5, Oper.quietUpon]
  simp only [Act.put, List.setIfInBounds_toArray, List.set_cons_zero, List.set_cons_succ]
  go_big_quiet_on
  go_big_quiet_want
  go_big_quiet_op
  refine ⟨_, fun wq hq => Sc.call HE_.out hq, ?_⟩
  go_big_quiet_on
  iterate 5 (first | go_big_quiet_skip | (go_big_quiet_want; go_big_quiet_op; first | go_big_quiet_on | (refine ⟨_, fun _ _ => rfl, ?_⟩; go_big_quiet_on)))
  go_big_quiet_want
  refine ⟨.int .i64 k, fun wq hq => ?_, ?_⟩
  · obtain ⟨⟨q0, q1, q2, q3, q4, q5⟩, _, _⟩ := Blk6.below bx7 hq
    unfold Oper.quietAt
    simp [go_sem, q0, Oper.quietUpon]
  simp only [Act.put, List.setIfInBounds_toArray, List.set_cons_zero, List.set_cons_succ]
  go_big_quiet_on
  go_big_quiet_want
  go_big_quiet_op
  refine ⟨_, fun wq hq => Sc.call HK_.out hq, ?_⟩
  go_big_quiet_on
  iterate 1 (first | go_big_quiet_skip | (go_big_quiet_want; go_big_quiet_op; first | go_big_quiet_on | (refine ⟨_, fun _ _ => rfl, ?_⟩; go_big_quiet_on)))
  go_big_quiet_want
  refine ⟨.int .i64 k, fun wq hq => ?_, ?_⟩
  · obtain ⟨⟨q0, q1, q2, q3, q4, q5⟩, _, _⟩ := Blk6.below bx7 hq
    unfold Oper.quietAt
    simp [go_sem, q0, Oper.quietUpon]
  simp only [Act.put, List.setIfInBounds_toArray, List.set_cons_zero, List.set_cons_succ]
  go_big_quiet_on
  go_big_quiet_want
  go_big_quiet_op
  refine ⟨_, fun wq hq => Sc.call HN_.out hq, ?_⟩
  go_big_quiet_on
  iterate 3 (first | go_big_quiet_skip | (go_big_quiet_want; go_big_quiet_op; first | go_big_quiet_on | (refine ⟨_, fun _ _ => rfl, ?_⟩; go_big_quiet_on)))
  refine wpQuiet_nil ?_
  intro w8 hv
  have hB8 : Below w.heap.size w w8 := Below.step hB7 hv
  clear hv
  go_wp2
  go_ret
  exact ⟨rfl, hB8⟩
set_option maxRecDepth 100000 in
set_option maxHeartbeats 4000000 in
theorem main_bad (k q p t c g X a0 a1 a2 a3 a4 a5 sk sg sl sf tick r0 r1 r2 r3 : Int) (sb ok : Bool) (s : ByteArray) (w : World)
   (j : Nat) (hW : ∀ w, Calls Try.prog 47 #[.agg #[.int .i64 k, .int .i64 q, .int .i64 p, .int .i64 t, .int .i64 c, .int .i64 g]] w (PackBad j w)) (hR : ∀ w, Calls Try.prog 48 #[.agg #[.int .i64 k, .int .i64 q, .int .i64 p, .int .i64 t, .int .i64 c, .int .i64 g]] w fun e w' => e = .returned (.tuple #[.int .u64 0, .int .i64 5]) ∧ Below w.heap.size w w')
   (hA : ∀ w, Calls Try.prog 49 #[.int .u64 X] w fun e w' => e = .returned (.agg #[.int .i64 a0, .int .i64 a1, .int .i64 a2, .int .i64 a3, .int .i64 a4, .int .i64 a5]) ∧ Below w.heap.size w w') (hB : ∀ w, Calls Try.prog 50 #[.int .u64 X] w fun e w' => e = .returned (.agg #[.int .i64 a0, .int .i64 a1, .int .i64 a2, .int .i64 a3, .int .i64 a4, .int .i64 a5]) ∧ Below w.heap.size w w')
   (hC : ∀ w, Calls Try.prog 51 #[.agg #[.int .i64 sk, .bool sb, .int .i64 sg, .int .i64 sl, .int .i64 sf], .int .i64 tick] w fun e w' => e = .returned (.tuple #[.agg #[.int .i64 r0, .int .i64 r1, .int .i64 r2, .int .i64 r3, .int .i64 0, .int .i64 0], .bool ok]) ∧ Below w.heap.size w w') (hD : ∀ w, Calls Try.prog 52 #[.agg #[.int .i64 sk, .bool sb, .int .i64 sg, .int .i64 sl, .int .i64 sf], .int .i64 tick] w fun e w' => e = .returned (.tuple #[.agg #[.int .i64 r0, .int .i64 r1, .int .i64 r2, .int .i64 r3, .int .i64 0, .int .i64 0], .bool ok]) ∧ Below w.heap.size w w') (hE : ∀ w, Calls Try.prog 54 #[.agg #[.int .i64 r0, .int .i64 r1, .int .i64 r2, .int .i64 r3, .int .i64 0, .int .i64 0]] w fun e w' => e = .returned (.bool ok) ∧ Below w.heap.size w w')
   (hK : ∀ w, Calls Try.prog 55 #[.int .i64 k] w fun e w' => e = .returned (.string s) ∧ Below w.heap.size w w') (hN : ∀ w, Calls Try.prog 56 #[.int .i64 k] w fun e w' => e = .returned (.string s) ∧ Below w.heap.size w w') :
    Calls Try.prog 7 #[.agg #[.int .i64 k, .int .i64 q, .int .i64 p, .int .i64 t, .int .i64 c, .int .i64 g], .int .u64 X, .agg #[.int .i64 sk, .bool sb, .int .i64 sg, .int .i64 sl, .int .i64 sf], .int .i64 tick] w fun e w' => e = .returned (.bool true) ∧ Below w.heap.size w w' := by
  have HW_ := Lib.hid hW
  have HR_ := Lib.hid hR
  have HA_ := Lib.hid hA
  have HB_ := Lib.hid hB
  have HC_ := Lib.hid hC
  have HD_ := Lib.hid hD
  have HE_ := Lib.hid hE
  have HK_ := Lib.hid hK
  have HN_ := Lib.hid hN
  clear hW hR hA hB hC hD hE hK hN
  have bx0 : Blk6 w.heap.size (.int .i64 k) (.int .i64 q) (.int .i64 p) (.int .i64 t) (.int .i64 c) (.int .i64 g) (w.alloc (.cells #[.int .i64 k, .int .i64 q, .int .i64 p, .int .i64 t, .int .i64 c, .int .i64 g] 71)) := ⟨⟨by simp [go_sem], by simp [go_sem], by simp [go_sem], by simp [go_sem], by simp [go_sem], by simp [go_sem]⟩, ⟨by simp [go_sem], by simp [go_sem], by simp [go_sem], by simp [go_sem], by simp [go_sem], by simp [go_sem]⟩, by simp⟩
  have bx1 := Blk6.below bx0 (show Below (w.alloc (.cells #[.int .i64 k, .int .i64 q, .int .i64 p, .int .i64 t, .int .i64 c, .int .i64 g] 71)).heap.size (w.alloc (.cells #[.int .i64 k, .int .i64 q, .int .i64 p, .int .i64 t, .int .i64 c, .int .i64 g] 71)) ((w.alloc (.cells #[.int .i64 k, .int .i64 q, .int .i64 p, .int .i64 t, .int .i64 c, .int .i64 g] 71)).alloc (.cells #[.int .i64 sk, .bool sb, .int .i64 sg, .int .i64 sl, .int .i64 sf] 52)) from by go_grown)
  have by1 : Blk5 (w.heap.size + 1) (.int .i64 sk) (.bool sb) (.int .i64 sg) (.int .i64 sl) (.int .i64 sf) ((w.alloc (.cells #[.int .i64 k, .int .i64 q, .int .i64 p, .int .i64 t, .int .i64 c, .int .i64 g] 71)).alloc (.cells #[.int .i64 sk, .bool sb, .int .i64 sg, .int .i64 sl, .int .i64 sf] 52)) := ⟨⟨by simp [go_sem], by simp [go_sem], by simp [go_sem], by simp [go_sem], by simp [go_sem]⟩, ⟨by simp [go_sem], by simp [go_sem], by simp [go_sem], by simp [go_sem], by simp [go_sem]⟩, by simp⟩
  clear bx0
  go_enter Try.func7, Try.ntmps7
  go_wp2_with fail
  refine (HW_.out _).mono ?_
  rintro e w1 ⟨y, rfl, hF1, hb1⟩
  have HF1 := Lib.hid hF1
  clear hF1
  have bx2 := Blk6.below bx1 hb1
  have by2 := Blk5.below by1 hb1
  have hB1 : Below w.heap.size w w1 := Below.step (by go_grown) hb1
  clear hb1
  obtain ⟨⟨s0, s1, s2, s3, s4, s5⟩, _, _⟩ := id bx2
  go_wp2_with fail
  refine (HR_.out _).mono ?_
  rintro e w2 ⟨rfl, hb2⟩
  have bx3 := Blk6.below bx2 hb2
  have by3 := Blk5.below by2 hb2
  have hB2 : Below w.heap.size w w2 := Below.step hB1 hb2
  have HF2 := Lib.hid (HF1.out.below hb2)
  clear hb2
  clear s0 s1 s2 s3 s4 s5
  go_wp2_with fail
  refine region_sc (by kernel_rfl) (by kernel_rfl) ?_
  iterate 5 (first | go_big_quiet_skip | (go_big_quiet_want; go_big_quiet_op; first | go_big_quiet_on | (refine ⟨_, fun _ _ => rfl, ?_⟩; go_big_quiet_on)))
  go_big_quiet_want
  go_big_quiet_op
  refine ⟨_, fun wq hq => (num_at (by decide) (by decide) (HF2.out.below hq)).mono (fun _ _ ⟨he, hb⟩ => ⟨he, Below.step hq hb⟩), ?_⟩
  go_big_quiet_on
  iterate 15 (first | go_big_quiet_skip | (go_big_quiet_want; go_big_quiet_op; first | go_big_quiet_on | (refine ⟨_, fun _ _ => rfl, ?_⟩; go_big_quiet_on)))
  go_big_quiet_want
  go_big_quiet_op
  refine ⟨_, fun wq hq => Sc.call HA_.out hq, ?_⟩
  go_big_quiet_on
  iterate 1 (first | go_big_quiet_skip | (go_big_quiet_want; go_big_quiet_op; first | go_big_quiet_on | (refine ⟨_, fun _ _ => rfl, ?_⟩; go_big_quiet_on)))
  go_big_quiet_want
  go_big_quiet_op
  refine ⟨_, fun wq hq => Sc.call HB_.out hq, ?_⟩
  go_big_quiet_on
  iterate 2 (first | go_big_quiet_skip | (go_big_quiet_want; go_big_quiet_op; first | go_big_quiet_on | (refine ⟨_, fun _ _ => rfl, ?_⟩; go_big_quiet_on)))
  refine wpQuiet_nil ?_
  intro w3 hv
  have bx4 := Blk6.below bx3 hv
  have by4 := Blk5.below by3 hv
  have hB3 : Below w.heap.size w w3 := Below.step hB2 hv
  clear hv
  obtain ⟨⟨u0, u1, u2, u3, u4⟩, _, _⟩ := id by4
  go_wp2_with fail
  refine (HC_.out _).mono ?_
  rintro e w4 ⟨rfl, hb4⟩
  have bx5 := Blk6.below bx4 hb4
  have by5 := Blk5.below by4 hb4
  have hB4 : Below w.heap.size w w4 := Below.step hB3 hb4
  clear hb4
  clear u0 u1 u2 u3 u4
  obtain ⟨⟨u0, u1, u2, u3, u4⟩, _, _⟩ := id by5
  have hl5 : w.heap.size + 1 < w4.heap.size := by5.2.2
  have bc5 : Blk6 w4.heap.size (.int .i64 r0) (.int .i64 r1) (.int .i64 r2) (.int .i64 r3) (.int .i64 0) (.int .i64 0) (w4.alloc (.cells #[.int .i64 r0, .int .i64 r1, .int .i64 r2, .int .i64 r3, .int .i64 0, .int .i64 0] 71)) := ⟨⟨by simp [go_sem], by simp [go_sem], by simp [go_sem], by simp [go_sem], by simp [go_sem], by simp [go_sem]⟩, ⟨by simp [go_sem], by simp [go_sem], by simp [go_sem], by simp [go_sem], by simp [go_sem], by simp [go_sem]⟩, by simp⟩
  go_wp2_with fail
  refine (HD_.out _).mono ?_
  rintro e w5 ⟨rfl, hb5⟩
  have bx6 := Blk6.below (Blk6.below bx5 (show Below w4.heap.size w4 (w4.alloc (.cells #[.int .i64 r0, .int .i64 r1, .int .i64 r2, .int .i64 r3, .int .i64 0, .int .i64 0] 71)) from by go_grown)) hb5
  have bc6 := Blk6.below bc5 hb5
  have hB5 : Below w.heap.size w w5 := Below.step (by go_grown) hb5
  clear hb5
  clear u0 u1 u2 u3 u4
  go_upto_region 7 with fail
  have bd7 : Blk6 w5.heap.size (.int .i64 r0) (.int .i64 r1) (.int .i64 r2) (.int .i64 r3) (.int .i64 0) (.int .i64 0) (w5.alloc (.cells #[.int .i64 r0, .int .i64 r1, .int .i64 r2, .int .i64 r3, .int .i64 0, .int .i64 0] 71)) := ⟨⟨by simp [go_sem], by simp [go_sem], by simp [go_sem], by simp [go_sem], by simp [go_sem], by simp [go_sem]⟩, ⟨by simp [go_sem], by simp [go_sem], by simp [go_sem], by simp [go_sem], by simp [go_sem], by simp [go_sem]⟩, by simp⟩
  have bx7 := Blk6.below bx6 (show Below w5.heap.size w5 (w5.alloc (.cells #[.int .i64 r0, .int .i64 r1, .int .i64 r2, .int .i64 r3, .int .i64 0, .int .i64 0] 71)) from by go_grown)
  have bc7 := Blk6.below bc6 (show Below w5.heap.size w5 (w5.alloc (.cells #[.int .i64 r0, .int .i64 r1, .int .i64 r2, .int .i64 r3, .int .i64 0, .int .i64 0] 71)) from by go_grown)
  have hB7 : Below w.heap.size w (w5.alloc (.cells #[.int .i64 r0, .int .i64 r1, .int .i64 r2, .int .i64 r3, .int .i64 0, .int .i64 0] 71)) := hB5.alloc hB5.size _
  generalize (w5.alloc (.cells #[.int .i64 r0, .int .i64 r1, .int .i64 r2, .int .i64 r3, .int .i64 0, .int .i64 0] 71)) = w7 at bd7 bx7 bc7 hB7 ⊢
  refine region_sc (by kernel_rfl) (by kernel_rfl) ?_
  go_big_quiet_want
  go_big_quiet_op
  refine ⟨_, fun wq hq => Sc.call (fun w => awake08 w) hq, ?_⟩
  go_big_quiet_on
  iterate 1 (first | go_big_quiet_skip | (go_big_quiet_want; go_big_quiet_op; first | go_big_quiet_on | (refine ⟨_, fun _ _ => rfl, ?_⟩; go_big_quiet_on)))
  go_big_quiet_want
  refine ⟨.agg #[.int .i64 r0, .int .i64 r1, .int .i64 r2, .int .i64 r3, .int .i64 0, .int .i64 0], fun wq hq => ?_, ?_⟩
  · obtain ⟨⟨q0, q1, q2, q3, q4, q5⟩, _, _⟩ := Blk6.below bc7 hq
    unfold Oper.quietAt
    simp [go_sem, q0, q1, q2, q3, q4, q5, Oper.quietUpon]
  simp only [Act.put, List.setIfInBounds_toArray, List.set_cons_zero, List.set_cons_succ]
  go_big_quiet_on
  go_big_quiet_want
  refine ⟨.agg #[.int .i64 r0, .int .i64 r1, .int .i64 r2, .int .i64 r3, .int .i64 0, .int .i64 0], fun wq hq => ?_, ?_⟩
  · obtain ⟨⟨q0, q1, q2, q3, q4, q5⟩, _, _⟩ := Blk6.below bd7 hq
    unfold Oper.quietAt
    simp [go_sem, q0, q1, q2, q3, q4, q5, Oper.quietUpon]
  simp only [Act.put, List.setIfInBounds_toArray, List.set_cons_zero, List.set_cons_succ]
  go_big_quiet_on
  iterate 8 (first | go_big_quiet_skip | (go_big_quiet_want; go_big_quiet_op; first | go_big_quiet_on | (refine ⟨_, fun _ _ => rfl, ?_⟩; go_big_quiet_on)))
  go_big_quiet_want
  refine ⟨.agg #[.int .i64 r0, .int .i64 r1, .int .i64 r2, .int .i64 r3, .int .i64 0, .int .i64 0], fun wq hq => ?_, ?_⟩
  · obtain ⟨⟨q0, q1, q2, q3, q4, q5⟩, _, _⟩ := Blk6.below bc7 hq
    unfold Oper.quietAt
    simp [go_sem, q0, q1, q2, q3, q4, q5, Oper.quietUpon]
  simp only [Act.put, List.setIfInBounds_toArray, List.set_cons_zero, List.set_cons_succ]
  go_big_quiet_on
  go_big_quiet_want
  go_big_quiet_op
  refine ⟨_, fun wq hq => Sc.call HE_.out hq, ?_⟩
  go_big_quiet_on
  iterate 5 (first | go_big_quiet_skip | (go_big_quiet_want; go_big_quiet_op; first | go_big_quiet_on | (refine ⟨_, fun _ _ => rfl, ?_⟩; go_big_quiet_on)))
  go_big_quiet_want
  refine ⟨.int .i64 k, fun wq hq => ?_, ?_⟩
  · obtain ⟨⟨q0, q1, q2, q3, q4, q5⟩, _, _⟩ := Blk6.below bx7 hq
    unfold Oper.quietAt
    simp [go_sem, q0, Oper.quietUpon]
  simp only [Act.put, List.setIfInBounds_toArray, List.set_cons_zero, List.set_cons_succ]
  go_big_quiet_on
  go_big_quiet_want
  go_big_quiet_op
  refine ⟨_, fun wq hq => Sc.call HK_.out hq, ?_⟩
  go_big_quiet_on
  iterate 1 (first | go_big_quiet_skip | (go_big_quiet_want; go_big_quiet_op; first | go_big_quiet_on | (refine ⟨_, fun _ _ => rfl, ?_⟩; go_big_quiet_on)))
  go_big_quiet_want
  refine ⟨.int .i64 k, fun wq hq => ?_, ?_⟩
  · obtain ⟨⟨q0, q1, q2, q3, q4, q5⟩, _, _⟩ := Blk6.below bx7 hq
    unfold Oper.quietAt
    simp [go_sem, q0, Oper.quietUpon]
  simp only [Act.put, List.setIfInBounds_toArray, List.set_cons_zero, List.set_cons_succ]
  go_big_quiet_on
  go_big_quiet_want
  go_big_quiet_op
  refine ⟨_, fun wq hq => Sc.call HN_.out hq, ?_⟩
  go_big_quiet_on
  iterate 3 (first | go_big_quiet_skip | (go_big_quiet_want; go_big_quiet_op; first | go_big_quiet_on | (refine ⟨_, fun _ _ => rfl, ?_⟩; go_big_quiet_on)))
  refine wpQuiet_nil ?_
  intro w8 hv
  have hB8 : Below w.heap.size w w8 := Below.step hB7 hv
  clear hv
  go_wp2
  go_ret
  exact ⟨rfl, hB8⟩
theorem walk (a0_0 : Int) (a0_1 : Int) (a0_2 : Int) (a0_3 : Int) (a0_4 : Int) (a0_5 : Int) (a1 : Int) (a2_0 : Int) (a2_1 : Bool) (a2_2 : Int) (a2_3 : Int) (a2_4 : Int) (a3 : Int) (w : World) (w0_0 : (Lit.int .i64 a0_0).wf = true) (w0_1 : (Lit.int .i64 a0_1).wf = true) (w0_2 : (Lit.int .i64 a0_2).wf = true) (w0_3 : (Lit.int .i64 a0_3).wf = true) (w0_4 : (Lit.int .i64 a0_4).wf = true) (w0_5 : (Lit.int .i64 a0_5).wf = true) (w1 : (Lit.int .u64 a1).wf = true) (w2_0 : (Lit.int .i64 a2_0).wf = true) (w2_2 : (Lit.int .i64 a2_2).wf = true) (w2_3 : (Lit.int .i64 a2_3).wf = true) (w2_4 : (Lit.int .i64 a2_4).wf = true) (w3 : (Lit.int .i64 a3).wf = true) :
    Calls Try.prog 7 #[.agg #[.int .i64 a0_0, .int .i64 a0_1, .int .i64 a0_2, .int .i64 a0_3, .int .i64 a0_4, .int .i64 a0_5], .int .u64 a1, .agg #[.int .i64 a2_0, .bool a2_1, .int .i64 a2_2, .int .i64 a2_3, .int .i64 a2_4], .int .i64 a3] w fun e w' => e = .returned (.bool true) ∧ Below w.heap.size w w' := by
  have b1 := bounds_u64 w1
  obtain ⟨X, rfl⟩ : ∃ X : Nat, a1 = X := ⟨a1.toNat, by omega⟩
  obtain ⟨s, hK, hN⟩ := recname_two a0_0
  obtain ⟨y0, y1, y2, y3, y4, y5, hA, hB⟩ := of_two X (by omega)
  obtain ⟨r0, r1, r2, r3, ok, hC, hD, hE⟩ := end_two a2_0 a2_2 a2_3 a2_4 a3 a2_1
  rcases word_two a0_0 a0_1 a0_2 a0_3 a0_4 a0_5 (bounds_i64 w0_0) (bounds_i64 w0_1) (bounds_i64 w0_2) (bounds_i64 w0_3) (bounds_i64 w0_4) (bounds_i64 w0_5) with ⟨Y, hW, hR, hS⟩ | ⟨j, hW, hR⟩
  · exact main_ok _ _ _ _ _ _ _ _ _ _ _ _ _ _ _ _ _ _ _ _ _ _ _ _ _ _ w hW hR hS hA hB hC hD hE hK hN
  · exact main_bad _ _ _ _ _ _ _ _ _ _ _ _ _ _ _ _ _ _ _ _ _ _ _ _ _ w j hW hR hA hB hC hD hE hK hN
end Go.Proofs.Ytgeognijglahfaa.recordWords

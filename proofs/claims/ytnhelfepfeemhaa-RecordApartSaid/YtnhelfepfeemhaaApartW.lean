/-
  The walk of RecordApart.
-/
import Derived.Test.YtnhelfepfeemhaaRows
import Derived.WalkKit
import Derived.ProofKit
import Derived.OpenShut
import Derived.ShutString
import Derived.Below
import Derived.Outline
import Derived.WalkLawsBesides
import Derived.WalkSpells
import Derived.Handy
import Derived.Deep.QuietTactic
import Derived.BigQuiet
import Derived.RegionTactic
import Derived.ChangeAlike
import Derived.Lib.Hide
import Derived.Laws.Rows
import Derived.Deep.Cut
import Derived.Deep.CutRange
import Derived.Deep.DeepCutAuto
import Derived.Deep.RegionHeld3
import Derived.Laws.Tables
import Derived.Laws.CopyOwn
import Derived.Deep.LoopGhost
import Derived.Laws.BitsAllLaws
import Derived.Laws.BitsLemmas
import Derived.IntWalk
import Derived.Test.YtnhelfepfeemhaaKit
import Derived.Test.YtnhelfepfeemhaaRec
import Derived.Test.YtnhelfepfeemhaaWord
namespace Go.Proofs.Ytnhelfepfeemhaa.recordApart
open Go.ChangeShapes Go.WideShapes Go.ChangeAt Go.RowKit
theorem parts_eq (A B a b P : Nat) (hA : A < P) (hB : B < P) (h : A + a * P = B + b * P) : A = B ∧ a = b := by
  have hP : 0 < P := by omega
  have e1 : (A + a * P) % P = A := by rw [Nat.add_mul_mod_self_right, Nat.mod_eq_of_lt hA]
  have e2 : (B + b * P) % P = B := by rw [Nat.add_mul_mod_self_right, Nat.mod_eq_of_lt hB]
  have h1 : A = B := by rw [← e1, ← e2, h]
  refine ⟨h1, ?_⟩
  subst h1
  have h2 : a * P = b * P := by omega
  exact Nat.eq_of_mul_eq_mul_right hP h2
theorem word_inj {n : Nat} {s z y : Nat → Int} (hS : Steps n s) (hz : ∀ k, k < n → 0 ≤ z k ∧ z k < 2 ^ (s (k + 1) - s k).toNat) (hy : ∀ k, k < n → 0 ≤ y k ∧ y k < 2 ^ (s (k + 1) - s k).toNat) :
    ∀ m, m ≤ n → word s z m = word s y m → ∀ k, k < m → z k = y k := by
  intro m
  induction m with
  | zero => intro _ _ k hk; exact absurd hk (Nat.not_lt_zero k)
  | succ m ih =>
    intro hm h k hk
    have l1 := word_lt hS hz m (by omega)
    have l2 := word_lt hS hy m (by omega)
    obtain ⟨e1, e2⟩ := parts_eq _ _ _ _ _ l1 l2 h
    rcases Nat.lt_or_ge k m with h2 | h2
    · exact ih (by omega) e1 k h2
    · have e : k = m := by omega
      subst e
      have p1 := (hz k (by omega)).1
      have p2 := (hy k (by omega)).1
      omega
theorem wordC (k q p t c g : Int) (w : World) (hb : ∀ j, j < 6 → -9223372036854775808 ≤ rz k q p t c g j ∧ rz k q p t c g j ≤ 9223372036854775807) : Calls Try.prog 20 #[.agg #[.int .i64 k, .int .i64 q, .int .i64 p, .int .i64 t, .int .i64 c, .int .i64 g]] w fun e w' => ∃ x y, e = .returned (.tuple #[.int .u64 x, y]) ∧ WordSays (rz k q p t c g) x y ∧ Below w.heap.size w w' := by
  by_cases h : k ≤ 5
  · exact word_low k q p t c g w h hb
  · exact word_high k q p t c g w (by omega)
set_option maxHeartbeats 1000000 in
theorem end_yes (k ge l f tick : Int) (fl : Bool) (w : World) (h1 : 5 ≤ k) (h2 : k ≤ 8) : Calls Try.prog 21 #[.agg #[.int .i64 k, .bool fl, .int .i64 ge, .int .i64 l, .int .i64 f], .int .i64 tick] w fun e w' => e = .returned (.tuple #[.agg #[.int .i64 (k - 3), .int .i64 l, .int .i64 f, .int .i64 tick, .int .i64 0, .int .i64 0], .bool true]) ∧ Below w.heap.size w w' := by
  have e1 : k - 5 + 2 = k - 3 := by omega
  go_enter Try.func21, Try.ntmps21
  go_wp2
  refine bodyPost_ret (by simp [results, Try.results21, go_sem]; try rfl) rfl ⟨rfl, ?_⟩
  go_grown
set_option maxHeartbeats 1000000 in
theorem end_low (k ge l f tick : Int) (fl : Bool) (w : World) (h1 : k < 5) : Calls Try.prog 21 #[.agg #[.int .i64 k, .bool fl, .int .i64 ge, .int .i64 l, .int .i64 f], .int .i64 tick] w fun e w' => e = .returned (.tuple #[.agg #[.int .i64 0, .int .i64 0, .int .i64 0, .int .i64 0, .int .i64 0, .int .i64 0], .bool false]) ∧ Below w.heap.size w w' := by
  go_enter Try.func21, Try.ntmps21
  go_wp2
  refine bodyPost_ret (by simp [results, Try.results21, go_sem]; try rfl) rfl ⟨rfl, ?_⟩
  go_grown
set_option maxHeartbeats 1000000 in
theorem end_high (k ge l f tick : Int) (fl : Bool) (w : World) (h1 : 8 < k) : Calls Try.prog 21 #[.agg #[.int .i64 k, .bool fl, .int .i64 ge, .int .i64 l, .int .i64 f], .int .i64 tick] w fun e w' => e = .returned (.tuple #[.agg #[.int .i64 0, .int .i64 0, .int .i64 0, .int .i64 0, .int .i64 0, .int .i64 0], .bool false]) ∧ Below w.heap.size w w' := by
  have hd : decide (k ≤ 8) = false := decide_eq_false (by omega)
  go_enter Try.func21, Try.ntmps21
  go_wp2
  refine bodyPost_ret (by simp [results, Try.results21, go_sem]; try rfl) rfl ⟨rfl, ?_⟩
  go_grown

set_option maxRecDepth 100000 in
set_option maxHeartbeats 4000000 in
theorem over_case (a0 a1 a2 a3 a4 a5 b0 b1 b2 b3 b4 b5 k ge l f tick : Int) (fl : Bool) (w : World)
    (hA : ∀ W, Calls Try.prog 20 #[.agg #[.int .i64 a0, .int .i64 a1, .int .i64 a2, .int .i64 a3, .int .i64 a4, .int .i64 a5]] W fun e w' => ∃ x y, e = .returned (.tuple #[.int .u64 x, y]) ∧ WordSays (rz a0 a1 a2 a3 a4 a5) x y ∧ Below W.heap.size W w')
    (hB : ∀ W, Calls Try.prog 20 #[.agg #[.int .i64 b0, .int .i64 b1, .int .i64 b2, .int .i64 b3, .int .i64 b4, .int .i64 b5]] W fun e w' => ∃ x y, e = .returned (.tuple #[.int .u64 x, y]) ∧ WordSays (rz b0 b1 b2 b3 b4 b5) x y ∧ Below W.heap.size W w') (h1 : 5 ≤ k) (h2 : k ≤ 8) :
    Calls Try.prog 8 #[.agg #[.int .i64 a0, .int .i64 a1, .int .i64 a2, .int .i64 a3, .int .i64 a4, .int .i64 a5], .agg #[.int .i64 b0, .int .i64 b1, .int .i64 b2, .int .i64 b3, .int .i64 b4, .int .i64 b5], .agg #[.int .i64 k, .bool fl, .int .i64 ge, .int .i64 l, .int .i64 f], .int .i64 tick] w fun e w' => e = .returned (.bool true) ∧ Below w.heap.size w w' := by
  have HA := Lib.hid hA
  have HB := Lib.hid hB
  clear hA hB
  have t1 : (l == l) = true := by simp
  have t2 : (f == f) = true := by simp
  have t3 : (tick == tick) = true := by simp
  go_enter Try.func8, Try.ntmps8
  go_wp2_with fail
  refine (HA.out _).mono ?_
  rintro e w1 ⟨x, y, rfl, hX, hb1⟩
  obtain ⟨hc1, hf1⟩ := bcell hb1
  have hz1 := hb1.size
  have hB1 : Below w.heap.size w w1 := Below.step (by go_grown) hb1
  have hs1 := hB1.size
  try simp only [World.size_alloc, World.size_setCell, World.size_drew] at hz1 hc1 hf1
  have hy1_0 : w.heap.size < w1.heap.size := by omega
  have hy1_1 : w.heap.size + 1 < w1.heap.size := by omega
  have hy1_2 : w.heap.size + 1 + 1 < w1.heap.size := by omega
  go_wp2_with fail
  refine (HB.out _).mono ?_
  rintro e w2 ⟨x', y', rfl, hY, hb2⟩
  obtain ⟨hc2, hf2⟩ := bcell hb2
  have hz2 := hb2.size
  have hB2 : Below w.heap.size w w2 := Below.step (by go_grown) hb2
  have hs2 := hB2.size
  try simp only [World.size_alloc, World.size_setCell, World.size_drew] at hz2 hc2 hf2
  have hy2_0 : w.heap.size < w2.heap.size := by omega
  have hy2_1 : w.heap.size + 1 < w2.heap.size := by omega
  have hy2_2 : w.heap.size + 1 + 1 < w2.heap.size := by omega
  have HX := Lib.hid hX
  have HY := Lib.hid hY
  clear hX hY
  go_upto_region 3 with fail
  go_cut [39] (fun s wx => s = .bool false ∧ w2 = wx)
  case first =>
    rcases HX.out with ⟨p1, p2, p3, rfl⟩ | ⟨T, v, rfl⟩
    · rcases HY.out with ⟨q1, q2, q3, rfl⟩ | ⟨T, v, rfl⟩
      · by_cases heq : (a0 = b0 ∧ a1 = b1 ∧ a2 = b2) ∧ (a3 = b3 ∧ a4 = b4 ∧ a5 = b5)
        · obtain ⟨⟨rfl, rfl, rfl⟩, ⟨rfl, rfl, rfl⟩⟩ := heq
          obtain rfl : x = x' := p3.trans q3.symm
          have hx : (x == x) = true := by simp
          clear HX HY p1 p2 p3 q1 q2 q3
          go_wp2_with fail
          all_goals go_meet
          case rel => exact ⟨rfl, rfl⟩
        · have hx : (x == x') = false := by
            rw [beq_eq_false_iff_ne]
            intro e
            have e' : word sh (rz a0 a1 a2 a3 a4 a5) 6 = word sh (rz b0 b1 b2 b3 b4 b5) 6 := by have := p3.symm.trans (e.trans q3); omega
            have h := word_inj sh_steps p2 q2 6 (Nat.le_refl _) e'
            exact heq ⟨⟨h 0 (by decide), h 1 (by decide), h 2 (by decide)⟩, ⟨h 3 (by decide), h 4 (by decide), h 5 (by decide)⟩⟩
          have HEQ := Lib.hid heq
          clear HX HY p1 p2 p3 q1 q2 q3 heq
          by_cases e0 : a0 = b0
          · subst e0
            by_cases e1 : a1 = b1
            · subst e1
              by_cases e2 : a2 = b2
              · subst e2
                by_cases e3 : a3 = b3
                · subst e3
                  by_cases e4 : a4 = b4
                  · subst e4
                    by_cases e5 : a5 = b5
                    · subst e5
                      exact absurd ⟨⟨rfl, rfl, rfl⟩, ⟨rfl, rfl, rfl⟩⟩ HEQ.out
                    · have d5 : (a5 == b5) = false := by rw [beq_eq_false_iff_ne]; exact e5
                      go_wp2_with fail
                      go_meet
                      exact ⟨rfl, rfl⟩
                  · have d4 : (a4 == b4) = false := by rw [beq_eq_false_iff_ne]; exact e4
                    go_wp2_with fail
                    go_meet
                    exact ⟨rfl, rfl⟩
                · have d3 : (a3 == b3) = false := by rw [beq_eq_false_iff_ne]; exact e3
                  go_wp2_with fail
                  go_meet
                  exact ⟨rfl, rfl⟩
              · have d2 : (a2 == b2) = false := by rw [beq_eq_false_iff_ne]; exact e2
                go_wp2_with fail
                go_meet
                exact ⟨rfl, rfl⟩
            · have d1 : (a1 == b1) = false := by rw [beq_eq_false_iff_ne]; exact e1
              go_wp2_with fail
              go_meet
              exact ⟨rfl, rfl⟩
          · have d0 : (a0 == b0) = false := by rw [beq_eq_false_iff_ne]; exact e0
            go_wp2_with fail
            go_meet
            exact ⟨rfl, rfl⟩
      · clear HX HY
        go_wp2_with fail
        all_goals (go_meet; exact ⟨rfl, rfl⟩)
    · clear HX HY
      go_wp2_with fail
      all_goals (go_meet; exact ⟨rfl, rfl⟩)
  case rest =>
    obtain ⟨rfl, rfl⟩ := hcut
    clear HX HY
    go_wp2_with fail
    refine (end_yes _ _ _ _ _ _ _ h1 h2).mono ?_
    rintro e w3 ⟨rfl, hb3⟩
    obtain ⟨hc3, hf3⟩ := bcell hb3
    have hz3 := hb3.size
    have hB3 : Below w.heap.size w w3 := Below.step (by go_grown) hb3
    have hs3 := hB3.size
    try simp only [World.size_alloc, World.size_setCell, World.size_drew] at hz3 hc3 hf3
    have hy3_0 : w.heap.size < w3.heap.size := by omega
    have hy3_1 : w.heap.size + 1 < w3.heap.size := by omega
    have hy3_2 : w.heap.size + 1 + 1 < w3.heap.size := by omega
    go_wp2_with fail
    refine (awake16 _).mono ?_
    rintro e w4 ⟨rfl, hb4⟩
    obtain ⟨hc4, hf4⟩ := bcell hb4
    have hz4 := hb4.size
    have hB4 : Below w.heap.size w w4 := Below.step (by go_grown) hb4
    have hs4 := hB4.size
    try simp only [World.size_alloc, World.size_setCell, World.size_drew] at hz4 hc4 hf4
    have hy4_0 : w.heap.size < w4.heap.size := by omega
    have hy4_1 : w.heap.size + 1 < w4.heap.size := by omega
    have hy4_2 : w.heap.size + 1 + 1 < w4.heap.size := by omega
    have hy4_3 : w3.heap.size < w4.heap.size := by omega
    go_wp2_with fail
    refine (isEnd_yes _ _ _ _ _ _ _ (by omega) (by omega)).mono ?_
    rintro e w5 ⟨rfl, hb5⟩
    obtain ⟨hc5, hf5⟩ := bcell hb5
    have hz5 := hb5.size
    have hB5 : Below w.heap.size w w5 := Below.step (by go_grown) hb5
    have hs5 := hB5.size
    try simp only [World.size_alloc, World.size_setCell, World.size_drew] at hz5 hc5 hf5
    have hy5_0 : w.heap.size < w5.heap.size := by omega
    have hy5_1 : w.heap.size + 1 < w5.heap.size := by omega
    have hy5_2 : w.heap.size + 1 + 1 < w5.heap.size := by omega
    have hy5_3 : w3.heap.size < w5.heap.size := by omega
    go_wp2
    go_ret
    exact ⟨rfl, hB5⟩

set_option maxRecDepth 100000 in
set_option maxHeartbeats 4000000 in
theorem not_over (a0 a1 a2 a3 a4 a5 b0 b1 b2 b3 b4 b5 k ge l f tick : Int) (fl : Bool) (w : World)
    (hA : ∀ W, Calls Try.prog 20 #[.agg #[.int .i64 a0, .int .i64 a1, .int .i64 a2, .int .i64 a3, .int .i64 a4, .int .i64 a5]] W fun e w' => ∃ x y, e = .returned (.tuple #[.int .u64 x, y]) ∧ WordSays (rz a0 a1 a2 a3 a4 a5) x y ∧ Below W.heap.size W w')
    (hB : ∀ W, Calls Try.prog 20 #[.agg #[.int .i64 b0, .int .i64 b1, .int .i64 b2, .int .i64 b3, .int .i64 b4, .int .i64 b5]] W fun e w' => ∃ x y, e = .returned (.tuple #[.int .u64 x, y]) ∧ WordSays (rz b0 b1 b2 b3 b4 b5) x y ∧ Below W.heap.size W w') (hE : ∀ W, Calls Try.prog 21 #[.agg #[.int .i64 k, .bool fl, .int .i64 ge, .int .i64 l, .int .i64 f], .int .i64 tick] W fun e w' => e = .returned (.tuple #[.agg #[.int .i64 0, .int .i64 0, .int .i64 0, .int .i64 0, .int .i64 0, .int .i64 0], .bool false]) ∧ Below W.heap.size W w') :
    Calls Try.prog 8 #[.agg #[.int .i64 a0, .int .i64 a1, .int .i64 a2, .int .i64 a3, .int .i64 a4, .int .i64 a5], .agg #[.int .i64 b0, .int .i64 b1, .int .i64 b2, .int .i64 b3, .int .i64 b4, .int .i64 b5], .agg #[.int .i64 k, .bool fl, .int .i64 ge, .int .i64 l, .int .i64 f], .int .i64 tick] w fun e w' => e = .returned (.bool true) ∧ Below w.heap.size w w' := by
  have HA := Lib.hid hA
  have HB := Lib.hid hB
  have HE := Lib.hid hE
  clear hE
  clear hA hB
  go_enter Try.func8, Try.ntmps8
  go_wp2_with fail
  refine (HA.out _).mono ?_
  rintro e w1 ⟨x, y, rfl, hX, hb1⟩
  obtain ⟨hc1, hf1⟩ := bcell hb1
  have hz1 := hb1.size
  have hB1 : Below w.heap.size w w1 := Below.step (by go_grown) hb1
  have hs1 := hB1.size
  try simp only [World.size_alloc, World.size_setCell, World.size_drew] at hz1 hc1 hf1
  have hy1_0 : w.heap.size < w1.heap.size := by omega
  have hy1_1 : w.heap.size + 1 < w1.heap.size := by omega
  have hy1_2 : w.heap.size + 1 + 1 < w1.heap.size := by omega
  go_wp2_with fail
  refine (HB.out _).mono ?_
  rintro e w2 ⟨x', y', rfl, hY, hb2⟩
  obtain ⟨hc2, hf2⟩ := bcell hb2
  have hz2 := hb2.size
  have hB2 : Below w.heap.size w w2 := Below.step (by go_grown) hb2
  have hs2 := hB2.size
  try simp only [World.size_alloc, World.size_setCell, World.size_drew] at hz2 hc2 hf2
  have hy2_0 : w.heap.size < w2.heap.size := by omega
  have hy2_1 : w.heap.size + 1 < w2.heap.size := by omega
  have hy2_2 : w.heap.size + 1 + 1 < w2.heap.size := by omega
  have HX := Lib.hid hX
  have HY := Lib.hid hY
  clear hX hY
  go_upto_region 3 with fail
  go_cut [39] (fun s wx => s = .bool false ∧ w2 = wx)
  case first =>
    rcases HX.out with ⟨p1, p2, p3, rfl⟩ | ⟨T, v, rfl⟩
    · rcases HY.out with ⟨q1, q2, q3, rfl⟩ | ⟨T, v, rfl⟩
      · by_cases heq : (a0 = b0 ∧ a1 = b1 ∧ a2 = b2) ∧ (a3 = b3 ∧ a4 = b4 ∧ a5 = b5)
        · obtain ⟨⟨rfl, rfl, rfl⟩, ⟨rfl, rfl, rfl⟩⟩ := heq
          obtain rfl : x = x' := p3.trans q3.symm
          have hx : (x == x) = true := by simp
          clear HX HY p1 p2 p3 q1 q2 q3
          go_wp2_with fail
          all_goals go_meet
          case rel => exact ⟨rfl, rfl⟩
        · have hx : (x == x') = false := by
            rw [beq_eq_false_iff_ne]
            intro e
            have e' : word sh (rz a0 a1 a2 a3 a4 a5) 6 = word sh (rz b0 b1 b2 b3 b4 b5) 6 := by have := p3.symm.trans (e.trans q3); omega
            have h := word_inj sh_steps p2 q2 6 (Nat.le_refl _) e'
            exact heq ⟨⟨h 0 (by decide), h 1 (by decide), h 2 (by decide)⟩, ⟨h 3 (by decide), h 4 (by decide), h 5 (by decide)⟩⟩
          have HEQ := Lib.hid heq
          clear HX HY p1 p2 p3 q1 q2 q3 heq
          by_cases e0 : a0 = b0
          · subst e0
            by_cases e1 : a1 = b1
            · subst e1
              by_cases e2 : a2 = b2
              · subst e2
                by_cases e3 : a3 = b3
                · subst e3
                  by_cases e4 : a4 = b4
                  · subst e4
                    by_cases e5 : a5 = b5
                    · subst e5
                      exact absurd ⟨⟨rfl, rfl, rfl⟩, ⟨rfl, rfl, rfl⟩⟩ HEQ.out
                    · have d5 : (a5 == b5) = false := by rw [beq_eq_false_iff_ne]; exact e5
                      go_wp2_with fail
                      go_meet
                      exact ⟨rfl, rfl⟩
                  · have d4 : (a4 == b4) = false := by rw [beq_eq_false_iff_ne]; exact e4
                    go_wp2_with fail
                    go_meet
                    exact ⟨rfl, rfl⟩
                · have d3 : (a3 == b3) = false := by rw [beq_eq_false_iff_ne]; exact e3
                  go_wp2_with fail
                  go_meet
                  exact ⟨rfl, rfl⟩
              · have d2 : (a2 == b2) = false := by rw [beq_eq_false_iff_ne]; exact e2
                go_wp2_with fail
                go_meet
                exact ⟨rfl, rfl⟩
            · have d1 : (a1 == b1) = false := by rw [beq_eq_false_iff_ne]; exact e1
              go_wp2_with fail
              go_meet
              exact ⟨rfl, rfl⟩
          · have d0 : (a0 == b0) = false := by rw [beq_eq_false_iff_ne]; exact e0
            go_wp2_with fail
            go_meet
            exact ⟨rfl, rfl⟩
      · clear HX HY
        go_wp2_with fail
        all_goals (go_meet; exact ⟨rfl, rfl⟩)
    · clear HX HY
      go_wp2_with fail
      all_goals (go_meet; exact ⟨rfl, rfl⟩)
  case rest =>
    obtain ⟨rfl, rfl⟩ := hcut
    clear HX HY
    go_wp2_with fail
    refine (HE.out _).mono ?_
    rintro e w3 ⟨rfl, hb3⟩
    obtain ⟨hc3, hf3⟩ := bcell hb3
    have hz3 := hb3.size
    have hB3 : Below w.heap.size w w3 := Below.step (by go_grown) hb3
    have hs3 := hB3.size
    try simp only [World.size_alloc, World.size_setCell, World.size_drew] at hz3 hc3 hf3
    have hy3_0 : w.heap.size < w3.heap.size := by omega
    have hy3_1 : w.heap.size + 1 < w3.heap.size := by omega
    have hy3_2 : w.heap.size + 1 + 1 < w3.heap.size := by omega
    go_wp2_with fail
    refine (awake16 _).mono ?_
    rintro e w4 ⟨rfl, hb4⟩
    obtain ⟨hc4, hf4⟩ := bcell hb4
    have hz4 := hb4.size
    have hB4 : Below w.heap.size w w4 := Below.step (by go_grown) hb4
    have hs4 := hB4.size
    try simp only [World.size_alloc, World.size_setCell, World.size_drew] at hz4 hc4 hf4
    have hy4_0 : w.heap.size < w4.heap.size := by omega
    have hy4_1 : w.heap.size + 1 < w4.heap.size := by omega
    have hy4_2 : w.heap.size + 1 + 1 < w4.heap.size := by omega
    have hy4_3 : w3.heap.size < w4.heap.size := by omega
    go_wp2
    go_ret
    exact ⟨rfl, hB4⟩

theorem walk (a0_0 a0_1 a0_2 a0_3 a0_4 a0_5 a1_0 a1_1 a1_2 a1_3 a1_4 a1_5 a2_0 : Int) (a2_1 : Bool) (a2_2 a2_3 a2_4 a3 : Int) (w : World) (w0_0 : (Lit.int .i64 a0_0).wf = true) (w0_1 : (Lit.int .i64 a0_1).wf = true) (w0_2 : (Lit.int .i64 a0_2).wf = true) (w0_3 : (Lit.int .i64 a0_3).wf = true) (w0_4 : (Lit.int .i64 a0_4).wf = true) (w0_5 : (Lit.int .i64 a0_5).wf = true)
    (w1_0 : (Lit.int .i64 a1_0).wf = true) (w1_1 : (Lit.int .i64 a1_1).wf = true) (w1_2 : (Lit.int .i64 a1_2).wf = true) (w1_3 : (Lit.int .i64 a1_3).wf = true) (w1_4 : (Lit.int .i64 a1_4).wf = true) (w1_5 : (Lit.int .i64 a1_5).wf = true) (w2_0 : (Lit.int .i64 a2_0).wf = true) (w2_2 : (Lit.int .i64 a2_2).wf = true) (w2_3 : (Lit.int .i64 a2_3).wf = true) (w2_4 : (Lit.int .i64 a2_4).wf = true) (w3 : (Lit.int .i64 a3).wf = true) :
    Calls Try.prog 8 #[.agg #[.int .i64 a0_0, .int .i64 a0_1, .int .i64 a0_2, .int .i64 a0_3, .int .i64 a0_4, .int .i64 a0_5], .agg #[.int .i64 a1_0, .int .i64 a1_1, .int .i64 a1_2, .int .i64 a1_3, .int .i64 a1_4, .int .i64 a1_5], .agg #[.int .i64 a2_0, .bool a2_1, .int .i64 a2_2, .int .i64 a2_3, .int .i64 a2_4], .int .i64 a3] w fun e w' => e = .returned (.bool true) ∧ Below w.heap.size w w' := by
  have hA := fun W => wordC a0_0 a0_1 a0_2 a0_3 a0_4 a0_5 W (fun j hj => by
    match j, hj with
    | 0, _ => exact bounds_i64 w0_0
    | 1, _ => exact bounds_i64 w0_1
    | 2, _ => exact bounds_i64 w0_2
    | 3, _ => exact bounds_i64 w0_3
    | 4, _ => exact bounds_i64 w0_4
    | 5, _ => exact bounds_i64 w0_5)
  have hB := fun W => wordC a1_0 a1_1 a1_2 a1_3 a1_4 a1_5 W (fun j hj => by
    match j, hj with
    | 0, _ => exact bounds_i64 w1_0
    | 1, _ => exact bounds_i64 w1_1
    | 2, _ => exact bounds_i64 w1_2
    | 3, _ => exact bounds_i64 w1_3
    | 4, _ => exact bounds_i64 w1_4
    | 5, _ => exact bounds_i64 w1_5)
  by_cases h5 : a2_0 < 5
  · exact not_over _ _ _ _ _ _ _ _ _ _ _ _ _ _ _ _ _ _ w hA hB (fun W => end_low _ _ _ _ _ _ W h5)
  by_cases h8 : 8 < a2_0
  · exact not_over _ _ _ _ _ _ _ _ _ _ _ _ _ _ _ _ _ _ w hA hB (fun W => end_high _ _ _ _ _ _ W h8)
  exact over_case _ _ _ _ _ _ _ _ _ _ _ _ _ _ _ _ _ _ w hA hB (by omega) (by omega)
end Go.Proofs.Ytnhelfepfeemhaa.recordApart

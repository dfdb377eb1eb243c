/-
  Texts of the machine of pairs, part 8.
-/
import Derived.Lib.Bytealg
import Derived.Lib.Strings
import Derived.Laws.Externs
import Derived.Lib.SplitLaws
import Derived.Shelf.Strings.Split
import Derived.Lib.Join
import Derived.Test.YtmjkhefgpobinaaM1
import Derived.Test.YtmjkhefgpobinaaM7
namespace Go.Proofs.Ytmjkhefgpobinaa
open Go.ChangeShapes Go.WideShapes Go.ChangeAt Go.RowKit
/-- A block of seven numbers. -/
def Blk7 (B : Nat) (v0 v1 v2 v3 v4 v5 v6 : Int) (w : World) : Prop :=
  (w.cell? ⟨B, 0, none⟩ = some (.int .i64 v0) ∧ w.cell? ⟨B, 1, none⟩ = some (.int .i64 v1) ∧ w.cell? ⟨B, 2, none⟩ = some (.int .i64 v2) ∧ w.cell? ⟨B, 3, none⟩ = some (.int .i64 v3) ∧ w.cell? ⟨B, 4, none⟩ = some (.int .i64 v4) ∧ w.cell? ⟨B, 5, none⟩ = some (.int .i64 v5) ∧ w.cell? ⟨B, 6, none⟩ = some (.int .i64 v6)) ∧ B < w.heap.size
theorem Blk7.below {B : Nat} {v0 v1 v2 v3 v4 v5 v6 : Int} {w w' : World} (h : Blk7 B v0 v1 v2 v3 v4 v5 v6 w) (hb : Below w.heap.size w w') : Blk7 B v0 v1 v2 v3 v4 v5 v6 w' := by
  obtain ⟨⟨c0, c1, c2, c3, c4, c5, c6⟩, hl⟩ := h
  have hc : ∀ o, w'.cell? ⟨B, o, none⟩ = w.cell? ⟨B, o, none⟩ := fun o => hb.cell (p := ⟨B, o, none⟩) hl
  exact ⟨⟨(hc 0).trans c0, (hc 1).trans c1, (hc 2).trans c2, (hc 3).trans c3, (hc 4).trans c4, (hc 5).trans c5, (hc 6).trans c6⟩, Nat.lt_of_lt_of_le hl hb.size⟩
theorem Blk7.new (w : World) (v0 v1 v2 v3 v4 v5 v6 : Int) (t : TypeId) : Blk7 w.heap.size v0 v1 v2 v3 v4 v5 v6 (w.alloc (.cells #[.int .i64 v0, .int .i64 v1, .int .i64 v2, .int .i64 v3, .int .i64 v4, .int .i64 v5, .int .i64 v6] t)) := by
  refine ⟨⟨?_, ?_, ?_, ?_, ?_, ?_, ?_⟩, ?_⟩ <;> simp [go_sem]
set_option maxHeartbeats 1000000 in
theorem within_yes (x m : Int) (w : World) (h0 : 0 ≤ x) (h1 : x < m) : Calls Try.prog 45 #[.int .i64 x, .int .i64 m] w fun e w' => e = .returned (.bool true) ∧ w = w' := by
  go_enter Try.func45, Try.ntmps45
  go_wp2
  go_ret
  exact ⟨rfl, rfl⟩
theorem all_is (p c A : Nat) (n b r f g : Int) (w : World) (hA : A = p * c) (hA4 : A ≤ 24) : Calls Try.prog 46 #[.agg #[.int .i64 (p : Int), .int .i64 (c : Int), .int .i64 n, .int .i64 b, .int .i64 r, .int .i64 f, .int .i64 g]] w fun e w' => e = .returned (.int .i64 (A : Int)) ∧ Below w.heap.size w w' := by
  have HAA := Lib.hid (show (p : Int) * (c : Int) = (A : Int) from by rw [hA]; rfl)
  have m0 : (0 : Int) ≤ (p : Int) * (c : Int) := by rw [HAA.out]; omega
  have m1 : (p : Int) * (c : Int) ≤ 24 := by rw [HAA.out]; omega
  clear hA
  go_enter Try.func46, Try.ntmps46
  go_wp2
  go_ret
  exact ⟨by show Ending.returned (.int .i64 ((p : Int) * (c : Int))) = _; rw [HAA.out], by go_grown⟩
theorem slots_is (p c n b r f g : Int) (w : World) (hf : 0 ≤ f ∧ f ≤ 4) : Calls Try.prog 47 #[.agg #[.int .i64 p, .int .i64 c, .int .i64 n, .int .i64 b, .int .i64 r, .int .i64 f, .int .i64 g]] w fun e w' => e = .returned (.int .i64 (f + 1)) ∧ Below w.heap.size w w' := by
  obtain ⟨f0, f1⟩ := hf
  go_enter Try.func47, Try.ntmps47
  go_wp2
  go_ret
  exact ⟨rfl, by go_grown⟩
theorem within_no (x m : Int) (w : World) (h : x < 0 ∨ m ≤ x) : Calls Try.prog 45 #[.int .i64 x, .int .i64 m] w fun e w' => e = .returned (.bool false) ∧ w = w' := by
  by_cases h0 : x < 0
  · have hd : decide (0 ≤ x) = false := decide_eq_false (by omega)
    clear h
    go_enter Try.func45, Try.ntmps45
    go_wp2
    go_ret
    exact ⟨rfl, rfl⟩
  · have h1 : 0 ≤ x := by omega
    have hd : decide (x < m) = false := decide_eq_false (by omega)
    clear h
    go_enter Try.func45, Try.ntmps45
    go_wp2
    go_ret
    exact ⟨rfl, rfl⟩
set_option maxHeartbeats 1000000 in
theorem state_at (p c A i : Nat) (n b r f g : Int) (w : World) (hA : A = p * c) (hA4 : A ≤ 24) (hi : i < A) : Calls Try.prog 34 #[.agg #[.int .i64 (p : Int), .int .i64 (c : Int), .int .i64 n, .int .i64 b, .int .i64 r, .int .i64 f, .int .i64 g], .int .i64 (i : Int)] w fun e w' => e = .returned (.int .i64 (2 * (i : Int))) ∧ Below w.heap.size w w' := by
  have HAL := Lib.hid (fun W => all_is p c A n b r f g W hA hA4)
  have i0 : (0 : Int) ≤ (i : Int) := by omega
  have i1 : (i : Int) ≤ 24 := by omega
  clear hA
  go_enter Try.func34, Try.ntmps34
  go_wp2_with fail
  refine (HAL.out _).mono ?_
  rintro e w1 ⟨rfl, hb1⟩
  have hB1 : Below w.heap.size w w1 := Below.step (by go_grown) hb1
  clear hb1
  go_wp2_with fail
  refine (within_yes _ _ _ (by omega) (by omega)).mono ?_
  rintro e w' ⟨rfl, rfl⟩
  go_wp2
  go_ret
  exact ⟨rfl, hB1⟩
set_option maxHeartbeats 1000000 in
theorem terms_at (p c A i : Nat) (n b r f g : Int) (w : World) (hA : A = p * c) (hA4 : A ≤ 24) (hi : i < A) : Calls Try.prog 35 #[.agg #[.int .i64 (p : Int), .int .i64 (c : Int), .int .i64 n, .int .i64 b, .int .i64 r, .int .i64 f, .int .i64 g], .int .i64 (i : Int)] w fun e w' => e = .returned (.int .i64 (2 * (i : Int) + 1)) ∧ Below w.heap.size w w' := by
  have HAL := Lib.hid (fun W => all_is p c A n b r f g W hA hA4)
  have i0 : (0 : Int) ≤ (i : Int) := by omega
  have i1 : (i : Int) ≤ 24 := by omega
  clear hA
  go_enter Try.func35, Try.ntmps35
  go_wp2_with fail
  refine (HAL.out _).mono ?_
  rintro e w1 ⟨rfl, hb1⟩
  have hB1 : Below w.heap.size w w1 := Below.step (by go_grown) hb1
  clear hb1
  go_wp2_with fail
  refine (within_yes _ _ _ (by omega) (by omega)).mono ?_
  rintro e w' ⟨rfl, rfl⟩
  go_wp2
  go_ret
  exact ⟨rfl, hB1⟩
set_option maxRecDepth 100000 in
set_option maxHeartbeats 4000000 in
theorem slot_in (p c A i t q f g : Nat) (n b r : Int) (w : World) (hA : A = p * c) (hA4 : A ≤ 24) (hf : f ≤ 4) (hg : g ≤ 15) (hi : i < A) (ht : t < g) (hq : q < f + 1) : Calls Try.prog 17 #[.agg #[.int .i64 (p : Int), .int .i64 (c : Int), .int .i64 n, .int .i64 b, .int .i64 r, .int .i64 (f : Int), .int .i64 (g : Int)], .int .i64 (i : Int), .int .i64 ((t : Int) + 1), .int .i64 (q : Int)] w fun e w' => e = .returned (.int .i64 ((ix A g (f + 1) i t q : Nat) : Int)) ∧ Below w.heap.size w w' := by
  have HAL := Lib.hid (fun W => all_is p c A n b r f g W hA hA4)
  have HSL := Lib.hid (fun W => slots_is p c n b r f g W (by omega))
  clear hA
  have i0 : (0 : Int) ≤ (i : Int) := by omega
  have i1 : (i : Int) ≤ 24 := by omega
  have t0 : (1 : Int) ≤ (t : Int) + 1 := by omega
  have t1 : (t : Int) + 1 ≤ (g : Int) := by omega
  have q0 : (0 : Int) ≤ (q : Int) := by omega
  have q1 : (q : Int) ≤ (f : Int) := by omega
  have hf1 : (f : Int) ≤ 4 := by omega
  have hg1 : (g : Int) ≤ 15 := by omega
  have bx0 := Blk7.new w p c n b r f g 52
  have hig : i * g ≤ 24 * 15 := Nat.mul_le_mul (by omega) hg
  have HIG := Lib.hid (show (i : Int) * (g : Int) = ((i * g : Nat) : Int) from rfl)
  have hm : (i * g + t) * (f + 1) ≤ 400 * 5 := Nat.mul_le_mul (by omega) (by omega)
  have HM := Lib.hid (show (((i * g : Nat) : Int) + (t : Int)) * ((f : Int) + 1) = (((i * g + t) * (f + 1) : Nat) : Int) from by simp [Int.natCast_mul, Int.natCast_add])
  have e1 : IntKind.i64.wrap (2 * (A : Int)) = 2 * (A : Int) := IntWalk.i64_in _ (by omega)
  have e2 : IntKind.i64.wrap ((i : Int) * (g : Int)) = ((i * g : Nat) : Int) := by rw [HIG.out]; exact IntWalk.i64_in _ (by omega)
  have e3 : IntKind.i64.wrap (((i * g : Nat) : Int) + ((t : Int) + 1)) = ((i * g : Nat) : Int) + (t : Int) + 1 := by rw [IntWalk.i64_in _ (by omega)]; omega
  have e4 : IntKind.i64.wrap (((i * g : Nat) : Int) + (t : Int) + 1 - 1) = ((i * g : Nat) : Int) + (t : Int) := by rw [IntWalk.i64_in _ (by omega)]; omega
  have e5 : IntKind.i64.wrap ((((i * g : Nat) : Int) + (t : Int)) * ((f : Int) + 1)) = (((i * g + t) * (f + 1) : Nat) : Int) := by rw [HM.out]; exact IntWalk.i64_in _ (by omega)
  have e6 : IntKind.i64.wrap (2 * (A : Int) + (((i * g + t) * (f + 1) : Nat) : Int)) = 2 * (A : Int) + (((i * g + t) * (f + 1) : Nat) : Int) := IntWalk.i64_in _ (by omega)
  have e7 : IntKind.i64.wrap (2 * (A : Int) + (((i * g + t) * (f + 1) : Nat) : Int) + (q : Int)) = 2 * (A : Int) + (((i * g + t) * (f + 1) : Nat) : Int) + (q : Int) := IntWalk.i64_in _ (by omega)
  have HFIN := Lib.hid (show wrap64 (wrap64 (2 * (A : Int) + wrap64 (wrap64 (((i * g : Nat) : Int) + (t : Int)) * ((f : Int) + 1))) + (q : Int)) = ((ix A g (f + 1) i t q : Nat) : Int) from by
    rw [IntWalk.wrap64_in (((i * g : Nat) : Int) + (t : Int)) (by omega), HM.out, IntWalk.wrap64_in (((i * g + t) * (f + 1) : Nat) : Int) (by omega), IntWalk.wrap64_in (2 * (A : Int) + (((i * g + t) * (f + 1) : Nat) : Int)) (by omega), IntWalk.wrap64_in _ (by omega)]
    unfold ix; omega)
  generalize (((i * g + t) * (f + 1) : Nat) : Int) = X at *
  generalize ((i * g : Nat) : Int) = Y at *
  have E := Lib.hid (And.intro e1 (And.intro e2 (And.intro e3 (And.intro e4 (And.intro e5 (And.intro e6 e7))))))
  clear e1 e2 e3 e4 e5 e6 e7 HIG HM hig hm
  go_enter Try.func17, Try.ntmps17
  go_wp2_with fail
  refine (HAL.out _).mono ?_
  rintro e w1 ⟨rfl, hb1⟩
  have bx1 := Blk7.below bx0 hb1
  have hB1 : Below w.heap.size w w1 := Below.step (by go_grown) hb1
  clear hb1 bx0
  obtain ⟨⟨c0, c1, c2, c3, c4, c5, c6⟩, hl⟩ := id bx1
  go_wp2_with fail
  refine (within_yes _ _ _ (by omega) (by omega)).mono ?_
  rintro e w' ⟨rfl, rfl⟩
  go_wp2_with fail
  refine (HSL.out _).mono ?_
  rintro e w2 ⟨rfl, hb2⟩
  have bx2 := Blk7.below bx1 hb2
  have hB2 : Below w.heap.size w w2 := Below.step hB1 hb2
  clear hb2 bx1 c0 c1 c2 c3 c4 c5 c6
  go_wp2_with fail
  refine (within_yes _ _ _ (by omega) (by omega)).mono ?_
  rintro e w' ⟨rfl, rfl⟩
  go_wp2_with fail
  obtain ⟨e1, e2, e3, e4, e5, e6, e7⟩ := E.out
  refine region_sc (by kernel_rfl) (by kernel_rfl) ?_
  go_big_quiet_want
  refine ⟨.agg #[.int .i64 (p : Int), .int .i64 (c : Int), .int .i64 n, .int .i64 b, .int .i64 r, .int .i64 (f : Int), .int .i64 (g : Int)], fun wq hq => ?_, ?_⟩
  · obtain ⟨⟨q0, q1, q2, q3, q4, q5, q6⟩, _⟩ := Blk7.below bx2 hq
    unfold Oper.quietAt
    simp [go_sem, q0, q1, q2, q3, q4, q5, q6, Oper.quietUpon]
  simp only [Act.put, tkA, tkB, tkC]
  go_big_quiet_on
  go_big_quiet_want
  go_big_quiet_op
  refine ⟨_, fun wq hq => Sc.call HAL.out hq, ?_⟩
  go_big_quiet_on
  iterate 4 (first | go_big_quiet_skip | (go_big_quiet_want; go_big_quiet_op; first | go_big_quiet_on | (refine ⟨_, fun _ _ => rfl, ?_⟩; go_big_quiet_on)))
  go_big_quiet_want
  refine ⟨.int .i64 (g : Int), fun wq hq => ?_, ?_⟩
  · obtain ⟨⟨q0, q1, q2, q3, q4, q5, q6⟩, _⟩ := Blk7.below bx2 hq
    unfold Oper.quietAt
    simp [go_sem, q6, Oper.quietUpon]
  simp only [Act.put, tkA, tkB, tkC]
  go_big_quiet_on
  iterate 4 (first | go_big_quiet_skip | (go_big_quiet_want; go_big_quiet_op; first | go_big_quiet_on | (refine ⟨_, fun _ _ => rfl, ?_⟩; go_big_quiet_on)))
  go_big_quiet_want
  refine ⟨.agg #[.int .i64 (p : Int), .int .i64 (c : Int), .int .i64 n, .int .i64 b, .int .i64 r, .int .i64 (f : Int), .int .i64 (g : Int)], fun wq hq => ?_, ?_⟩
  · obtain ⟨⟨q0, q1, q2, q3, q4, q5, q6⟩, _⟩ := Blk7.below bx2 hq
    unfold Oper.quietAt
    simp [go_sem, q0, q1, q2, q3, q4, q5, q6, Oper.quietUpon]
  simp only [Act.put, tkA, tkB, tkC]
  go_big_quiet_on
  go_big_quiet_want
  go_big_quiet_op
  refine ⟨_, fun wq hq => Sc.call HSL.out hq, ?_⟩
  go_big_quiet_on
  iterate 5 (first | go_big_quiet_skip | (go_big_quiet_want; go_big_quiet_op; first | go_big_quiet_on | (refine ⟨_, fun _ _ => rfl, ?_⟩; go_big_quiet_on)))
  refine wpQuiet_nil ?_
  intro w3 hv
  have hB3 : Below w.heap.size w w3 := Below.step hB2 hv
  clear hv e1 e2 e3 e4 e5 e6 e7
  go_wp2
  go_ret
  exact ⟨by rw [← HFIN.out]; rfl, hB3⟩
set_option maxRecDepth 100000 in
set_option maxHeartbeats 4000000 in
theorem slot_out_x (p c A f g : Nat) (n b r x y z : Int) (w : World) (hA : A = p * c) (hA4 : A ≤ 24) (hf : f ≤ 4) (h : x < 0 ∨ (A : Int) ≤ x) :
    Calls Try.prog 17 #[.agg #[.int .i64 (p : Int), .int .i64 (c : Int), .int .i64 n, .int .i64 b, .int .i64 r, .int .i64 (f : Int), .int .i64 (g : Int)], .int .i64 x, .int .i64 y, .int .i64 z] w fun e w' => e = .returned (.int .i64 (-1)) ∧ Below w.heap.size w w' := by
  have HAL := Lib.hid (fun W => all_is p c A n b r f g W hA hA4)
  have HSL := Lib.hid (fun W => slots_is p c n b r f g W (by omega))
  clear hA
  have HX := Lib.hid h
  clear h
  have bx0 := Blk7.new w p c n b r f g 52
  go_enter Try.func17, Try.ntmps17
  go_wp2_with fail
  refine (HAL.out _).mono ?_
  rintro e w1 ⟨rfl, hb1⟩
  have bx1 := Blk7.below bx0 hb1
  have hB1 : Below w.heap.size w w1 := Below.step (by go_grown) hb1
  clear hb1 bx0
  obtain ⟨⟨c0, c1, c2, c3, c4, c5, c6⟩, hl⟩ := id bx1
  go_wp2_with fail
  refine (within_no _ _ _ HX.out).mono ?_
  rintro e w' ⟨rfl, rfl⟩
  go_wp2
  go_ret
  exact ⟨rfl, by first | exact hB2 | exact hB1⟩
set_option maxRecDepth 100000 in
set_option maxHeartbeats 4000000 in
theorem slot_out_low (p c A f g : Nat) (n b r x y z : Int) (w : World) (hA : A = p * c) (hA4 : A ≤ 24) (hf : f ≤ 4) (h0 : 0 ≤ x) (h1 : x < A) (h : y < 1) :
    Calls Try.prog 17 #[.agg #[.int .i64 (p : Int), .int .i64 (c : Int), .int .i64 n, .int .i64 b, .int .i64 r, .int .i64 (f : Int), .int .i64 (g : Int)], .int .i64 x, .int .i64 y, .int .i64 z] w fun e w' => e = .returned (.int .i64 (-1)) ∧ Below w.heap.size w w' := by
  have HAL := Lib.hid (fun W => all_is p c A n b r f g W hA hA4)
  have HSL := Lib.hid (fun W => slots_is p c n b r f g W (by omega))
  clear hA
  have bx0 := Blk7.new w p c n b r f g 52
  go_enter Try.func17, Try.ntmps17
  go_wp2_with fail
  refine (HAL.out _).mono ?_
  rintro e w1 ⟨rfl, hb1⟩
  have bx1 := Blk7.below bx0 hb1
  have hB1 : Below w.heap.size w w1 := Below.step (by go_grown) hb1
  clear hb1 bx0
  obtain ⟨⟨c0, c1, c2, c3, c4, c5, c6⟩, hl⟩ := id bx1
  go_wp2_with fail
  refine (within_yes _ _ _ (by omega) (by omega)).mono ?_
  rintro e w' ⟨rfl, rfl⟩
  go_wp2
  go_ret
  exact ⟨rfl, by first | exact hB2 | exact hB1⟩
set_option maxRecDepth 100000 in
set_option maxHeartbeats 4000000 in
theorem slot_out_high (p c A f g : Nat) (n b r x y z : Int) (w : World) (hA : A = p * c) (hA4 : A ≤ 24) (hf : f ≤ 4) (h0 : 0 ≤ x) (h1 : x < A) (h2 : 1 ≤ y) (h : (g : Int) < y) :
    Calls Try.prog 17 #[.agg #[.int .i64 (p : Int), .int .i64 (c : Int), .int .i64 n, .int .i64 b, .int .i64 r, .int .i64 (f : Int), .int .i64 (g : Int)], .int .i64 x, .int .i64 y, .int .i64 z] w fun e w' => e = .returned (.int .i64 (-1)) ∧ Below w.heap.size w w' := by
  have HAL := Lib.hid (fun W => all_is p c A n b r f g W hA hA4)
  have HSL := Lib.hid (fun W => slots_is p c n b r f g W (by omega))
  clear hA
  have bx0 := Blk7.new w p c n b r f g 52
  go_enter Try.func17, Try.ntmps17
  go_wp2_with fail
  refine (HAL.out _).mono ?_
  rintro e w1 ⟨rfl, hb1⟩
  have bx1 := Blk7.below bx0 hb1
  have hB1 : Below w.heap.size w w1 := Below.step (by go_grown) hb1
  clear hb1 bx0
  obtain ⟨⟨c0, c1, c2, c3, c4, c5, c6⟩, hl⟩ := id bx1
  go_wp2_with fail
  refine (within_yes _ _ _ (by omega) (by omega)).mono ?_
  rintro e w' ⟨rfl, rfl⟩
  go_wp2
  go_ret
  exact ⟨rfl, by first | exact hB2 | exact hB1⟩
set_option maxRecDepth 100000 in
set_option maxHeartbeats 4000000 in
theorem slot_out_z (p c A f g : Nat) (n b r x y z : Int) (w : World) (hA : A = p * c) (hA4 : A ≤ 24) (hf : f ≤ 4) (h0 : 0 ≤ x) (h1 : x < A) (h2 : 1 ≤ y) (h3 : y ≤ (g : Int)) (h : z < 0 ∨ (f : Int) + 1 ≤ z) :
    Calls Try.prog 17 #[.agg #[.int .i64 (p : Int), .int .i64 (c : Int), .int .i64 n, .int .i64 b, .int .i64 r, .int .i64 (f : Int), .int .i64 (g : Int)], .int .i64 x, .int .i64 y, .int .i64 z] w fun e w' => e = .returned (.int .i64 (-1)) ∧ Below w.heap.size w w' := by
  have HAL := Lib.hid (fun W => all_is p c A n b r f g W hA hA4)
  have HSL := Lib.hid (fun W => slots_is p c n b r f g W (by omega))
  clear hA
  have HX := Lib.hid h
  clear h
  have bx0 := Blk7.new w p c n b r f g 52
  go_enter Try.func17, Try.ntmps17
  go_wp2_with fail
  refine (HAL.out _).mono ?_
  rintro e w1 ⟨rfl, hb1⟩
  have bx1 := Blk7.below bx0 hb1
  have hB1 : Below w.heap.size w w1 := Below.step (by go_grown) hb1
  clear hb1 bx0
  obtain ⟨⟨c0, c1, c2, c3, c4, c5, c6⟩, hl⟩ := id bx1
  go_wp2_with fail
  refine (within_yes _ _ _ (by omega) (by omega)).mono ?_
  rintro e w' ⟨rfl, rfl⟩
  go_wp2_with fail
  refine (HSL.out _).mono ?_
  rintro e w2 ⟨rfl, hb2⟩
  have bx2 := Blk7.below bx1 hb2
  have hB2 : Below w.heap.size w w2 := Below.step hB1 hb2
  clear hb2 bx1 c0 c1 c2 c3 c4 c5 c6
  go_wp2_with fail
  refine (within_no _ _ _ HX.out).mono ?_
  rintro e w' ⟨rfl, rfl⟩
  go_wp2
  go_ret
  exact ⟨rfl, by first | exact hB2 | exact hB1⟩
theorem slot_out (p c A f g : Nat) (n b r x y z : Int) (w : World) (hA : A = p * c) (hA4 : A ≤ 24) (hf : f ≤ 4) (h : ¬ ((0 ≤ x ∧ x < A) ∧ (1 ≤ y ∧ y ≤ g) ∧ (0 ≤ z ∧ z < (f : Int) + 1))) :
    Calls Try.prog 17 #[.agg #[.int .i64 (p : Int), .int .i64 (c : Int), .int .i64 n, .int .i64 b, .int .i64 r, .int .i64 (f : Int), .int .i64 (g : Int)], .int .i64 x, .int .i64 y, .int .i64 z] w fun e w' => e = .returned (.int .i64 (-1)) ∧ Below w.heap.size w w' := by
  by_cases h0 : x < 0 ∨ (A : Int) ≤ x
  · exact slot_out_x p c A f g n b r x y z w hA hA4 hf h0
  by_cases h1 : y < 1
  · exact slot_out_low p c A f g n b r x y z w hA hA4 hf (by omega) (by omega) h1
  by_cases h2 : (g : Int) < y
  · exact slot_out_high p c A f g n b r x y z w hA hA4 hf (by omega) (by omega) (by omega) h2
  · exact slot_out_z p c A f g n b r x y z w hA hA4 hf (by omega) (by omega) (by omega) (by omega) (by omega)
end Go.Proofs.Ytmjkhefgpobinaa
namespace Go.Proofs.Ytmjkhefgpobinaa
open Go.ChangeShapes Go.WideShapes Go.ChangeAt Go.RowKit
def ow (p c x : Int) : Int := if 0 ≤ x ∧ x < p * c then x / c else -1
theorem mul24 {p c : Int} (hp : 1 ≤ p ∧ p ≤ 6) (hc : 1 ≤ c ∧ c ≤ 4) : 1 ≤ p * c ∧ p * c ≤ 24 := by
  obtain ⟨p0, p1⟩ := hp
  obtain ⟨c0, c1⟩ := hc
  exact ⟨by have := Int.mul_le_mul p0 c0 (by omega) (by omega); omega, by have := Int.mul_le_mul p1 c1 (by omega) (by omega); omega⟩
theorem all_r (p c n b r f g : Int) (w : World) (m : 1 ≤ p * c ∧ p * c ≤ 24) : Calls Try.prog 46 #[.agg #[.int .i64 p, .int .i64 c, .int .i64 n, .int .i64 b, .int .i64 r, .int .i64 f, .int .i64 g]] w fun e w' => e = .returned (.int .i64 (p * c)) ∧ Below w.heap.size w w' := by
  obtain ⟨m0, m1⟩ := m
  go_enter Try.func46, Try.ntmps46
  go_wp2_with fail
  go_ret
  exact ⟨rfl, by go_grown⟩
theorem within_y (x m : Int) (w : World) (h0 : 0 ≤ x) (h1 : x < m) : Calls Try.prog 45 #[.int .i64 x, .int .i64 m] w fun e w' => e = .returned (.bool true) ∧ Below w.heap.size w w' := by
  go_enter Try.func45, Try.ntmps45
  go_wp2_with fail
  go_ret
  exact ⟨rfl, Below.refl _ _⟩
theorem within_n (x m : Int) (w : World) (h : x < 0 ∨ m ≤ x) : Calls Try.prog 45 #[.int .i64 x, .int .i64 m] w fun e w' => e = .returned (.bool false) ∧ Below w.heap.size w w' := by
  by_cases h0 : x < 0
  · have d0 : decide (0 ≤ x) = false := decide_eq_false (by omega)
    clear h
    go_enter Try.func45, Try.ntmps45
    go_wp2_with fail
    go_ret
    exact ⟨rfl, Below.refl _ _⟩
  · have h1 : m ≤ x := by omega
    have h2 : 0 ≤ x := by omega
    have d0 : decide (x < m) = false := decide_eq_false (by omega)
    clear h h0
    go_enter Try.func45, Try.ntmps45
    go_wp2_with fail
    go_ret
    exact ⟨rfl, Below.refl _ _⟩
set_option maxHeartbeats 1000000 in
theorem owner_is (p c n b r f g x : Int) (w : World) (hp : 1 ≤ p ∧ p ≤ 6) (hc : 1 ≤ c ∧ c ≤ 4) : Calls Try.prog 37 #[.agg #[.int .i64 p, .int .i64 c, .int .i64 n, .int .i64 b, .int .i64 r, .int .i64 f, .int .i64 g], .int .i64 x] w fun e w' => e = .returned (.int .i64 (ow p c x)) ∧ Below w.heap.size w w' := by
  have m := mul24 hp hc
  have HA := Lib.hid (fun W => all_r p c n b r f g W m)
  obtain ⟨c0, c1⟩ := hc
  unfold ow
  by_cases hx : 0 ≤ x ∧ x < p * c
  · rw [if_pos hx]
    obtain ⟨x0, x1⟩ := hx
    obtain ⟨m0, m1⟩ := m
    have HW := Lib.hid (fun W => within_y x (p * c) W x0 x1)
    have hq : Int.tdiv x c = x / c := Int.tdiv_eq_ediv_of_nonneg x0
    have hq0 : 0 ≤ x / c := Int.ediv_nonneg x0 (by omega)
    have hq1 : x / c ≤ x := Int.ediv_le_self c x0
    have hne : (c == 0) = false := by simp; omega
    have hx24 : x ≤ 24 := by omega
    clear hp m0 m1 x1
    go_enter Try.func37, Try.ntmps37
    go_wp2_with fail
    refine (HA.out _).mono ?_
    rintro e w1 ⟨rfl, hb1⟩
    have g1 : Below w.heap.size w w1 := Below.step (by go_grown) hb1
    have b1 := (Bl.new w [.int .i64 p, .int .i64 c, .int .i64 n, .int .i64 b, .int .i64 r, .int .i64 f, .int .i64 g] 52).below hb1
    go_wp2_with fail
    refine (HW.out _).mono ?_
    rintro e w2 ⟨rfl, hb2⟩
    have g2 := Below.step g1 hb2
    have b2 := b1.below hb2
    have k1 := b2.cell 1 _ rfl
    go_wp2_with fail
    go_ret
    exact ⟨by first | rfl | (rw [← hq]; rfl) | simp [hq], g2⟩
  · rw [if_neg hx]
    have HW := Lib.hid (fun W => within_n x (p * c) W (by omega))
    obtain ⟨m0, m1⟩ := m
    clear hp hx
    go_enter Try.func37, Try.ntmps37
    go_wp2_with fail
    refine (HA.out _).mono ?_
    rintro e w1 ⟨rfl, hb1⟩
    have g1 : Below w.heap.size w w1 := Below.step (by go_grown) hb1
    go_wp2_with fail
    refine (HW.out _).mono ?_
    rintro e w2 ⟨rfl, hb2⟩
    go_wp2_with fail
    go_ret
    exact ⟨rfl, Below.step g1 hb2⟩
end Go.Proofs.Ytmjkhefgpobinaa
namespace Go.Proofs.Ytmjkhefgpobinaa
open Go.ChangeShapes Go.WideShapes Go.ChangeAt Go.RowKit
/-- A cell's state. -/
structure Cs where
  kind : Int
  flag : Bool
  gen : Int
  left : Int
  fills : Int
  deriving DecidableEq
def looseS (s : Cs) : Bool := decide (s.kind = 1) || decide (s.kind = 2)
def heldS (s : Cs) : Bool := decide (s.kind = 3) || decide (s.kind = 4)
def overS (s : Cs) : Bool := decide (5 ≤ s.kind) && decide (s.kind ≤ 8)
def holdS (s : Cs) : Cs := if s.kind = 1 then { s with kind := 3 } else if s.kind = 2 then { s with kind := 4 } else s
def loosenS (s : Cs) : Cs := if s.kind = 3 then { s with kind := 1 } else if s.kind = 4 then { s with kind := 2 } else s
def paidS (s : Cs) (q : Int) : Cs := if 0 < q then { s with left := s.left - q, fills := s.fills + 1 } else s
def endS (s : Cs) (f : Int) : Cs := if s.left = 0 then { s with kind := 5, flag := false } else if f ≤ s.fills then { s with kind := 8, flag := false } else s
def spendS (s : Cs) (q f : Int) : Cs := endS (paidS s q) f
def takeS (s : Cs) (q f : Int) : Option Cs := if looseS s = false then none else if q < 1 ∨ s.left < q then none else if f ≤ s.fills then none else some (spendS s q f)
def wishS (s : Cs) : Cs := if overS s = false ∧ s.flag = true then { s with kind := 6, flag := false } else s
def releaseS (s : Cs) (q f : Int) : Option Cs := if heldS s = false then none else if q < 0 ∨ s.left < q then none else if q ≠ 0 ∧ f ≤ s.fills then none else some (wishS (spendS (loosenS s) q f))
def cancelS (s : Cs) : Option Cs := if looseS s = true then some { s with kind := 6 } else if heldS s = true then some { s with flag := true } else none
/-- What the machine asks of terms. -/
structure Pm (T : Type) where
  F : Int
  mt : T → T → Int → Int → Option (Int × Int)
  sh : T → Int
  buy : T → Bool
/-- A try. -/
structure Tr (T : Type) where
  way : Int
  x : Nat
  gen : Int
  y : Nat
  shard : Int
  ok : Bool
  pc : Nat
  sx : Cs
  sy : Cs
  tx : T
  ty : T
  held : Bool
  made : Bool
  freed : Bool
  q : Int
  p : Int
  tk : Int
  taken : Cs
  nw : Cs
  lt : Cs
  ltk : Int
inductive Lg where
  | fill (x : Nat) (gen : Int) (y : Nat) (w q p t : Int)
  | over (x : Nat) (gen e t : Int)
  | raw (k c t : Int)
structure Mw (T : Type) where
  S : Nat → Cs
  Tm : Nat → T
  now : Int
  log : List Lg
def upd {α : Type} (f : Nat → α) (i : Nat) (a : α) : Nat → α := fun j => if j = i then a else f j
theorem upd_at {α : Type} (f : Nat → α) (i : Nat) (a : α) : upd f i a i = a := if_pos rfl
theorem upd_ne {α : Type} (f : Nat → α) {i j : Nat} (a : α) (h : j ≠ i) : upd f i a j = f j := if_neg h
def mayHold {T : Type} (P : Pm T) (t : Tr T) : Bool :=
  if t.way = 1 ∨ t.way = 2 then decide (t.sx.kind = 1) && decide (t.sx.gen = t.gen)
  else if t.way = 3 then decide (t.sx.kind = 2) && (P.buy t.tx && decide (P.sh t.tx = t.shard)) else false
def mayTake {T : Type} (P : Pm T) (t : Tr T) : Bool :=
  if t.way = 1 then decide (t.sy.kind = 1)
  else if t.way = 2 then decide (P.sh t.ty = t.shard) && decide (t.sy.kind = 2)
  else if t.way = 3 then decide (t.sy.kind = 2) else false
def stHold {T : Type} (P : Pm T) (t : Tr T) (w : Mw T) : Tr T × Mw T :=
  if mayHold P t = true then
    (if w.S t.x = t.sx then ({ t with held := true }, { w with S := upd w.S t.x (holdS t.sx) }) else ({ t with held := false }, w))
  else (t, w)
def stTake {T : Type} (P : Pm T) (t : Tr T) (w : Mw T) : Tr T × Mw T :=
  if t.held = true ∧ mayTake P t = true then
    (match P.mt t.tx t.ty t.sx.left t.sy.left with
    | none => (t, w)
    | some (q, p) => match takeS t.sy q P.F with
      | none => (t, w)
      | some s => if w.S t.y = t.sy then ({ t with made := true, q := q, p := p, tk := w.now, taken := s }, { w with S := upd w.S t.y s, log := w.log ++ [.fill t.x t.sx.gen t.y t.sy.gen q p w.now] }) else (t, w))
  else (t, w)
def stLook {T : Type} (t : Tr T) (w : Mw T) : Tr T × Mw T := if t.held = true ∧ t.freed = false then ({ t with nw := w.S t.x }, w) else (t, w)
def stLet {T : Type} (P : Pm T) (t : Tr T) (w : Mw T) : Tr T × Mw T :=
  if t.held = true ∧ t.freed = false then
    (match releaseS t.nw t.q P.F with
    | none => (t, w)
    | some s => if w.S t.x = t.nw then ({ t with freed := true, lt := s, ltk := w.now }, { w with S := upd w.S t.x s, log := if overS s = true then w.log ++ [.over t.x s.gen s.kind w.now] else w.log }) else (t, w))
  else (t, w)
/-- A step of a try. -/
def stepT {T : Type} (P : Pm T) (t : Tr T) (w : Mw T) : Tr T × Mw T :=
  if 14 ≤ t.pc then (t, w)
  else if t.ok = false then ({ t with pc := t.pc + 1 }, w)
  else match t.pc with
    | 0 => ({ t with pc := 1, sx := w.S t.x }, w)
    | 1 => ({ t with pc := 2, tx := w.Tm t.x }, w)
    | 2 => stHold P { t with pc := 3 } w
    | 3 => ({ t with pc := 4, sy := w.S t.y }, w)
    | 4 => ({ t with pc := 5, ty := w.Tm t.y }, w)
    | 5 => stTake P { t with pc := 6 } w
    | 6 => stLook { t with pc := 7 } w
    | 7 => stLet P { t with pc := 8 } w
    | 8 => stLook { t with pc := 9 } w
    | 9 => stLet P { t with pc := 10 } w
    | k => ({ t with pc := k + 1 }, w)
/-- What the log filled of a cell's order. -/
def lgq (i : Nat) : Lg → Int
  | .fill x _ y _ q _ _ => (if x = i then q else 0) + (if y = i then q else 0)
  | .over .. => 0
  | .raw .. => 0
def doneL (i : Nat) : List Lg → Int
  | [] => 0
  | e :: l => lgq i e + doneL i l
theorem doneL_app (i : Nat) : ∀ (a b : List Lg), doneL i (a ++ b) = doneL i a + doneL i b
  | [], b => by simp [doneL]
  | e :: a, b => by simp only [List.cons_append, doneL, doneL_app i a b]; omega
/-- What a try took for the one that it still holds. -/
def pd {T : Type} (i : Nat) (t : Tr T) : Int := if t.made = true ∧ t.freed = false ∧ t.x = i then t.q else 0
def pend {T : Type} (i : Nat) (ts : Nat → Tr T) : Nat → Int
  | 0 => 0
  | n + 1 => pend i ts n + pd i (ts n)
theorem pend_late {T : Type} (i : Nat) (ts : Nat → Tr T) (k : Nat) (t : Tr T) : ∀ n, n ≤ k → pend i (upd ts k t) n = pend i ts n
  | 0, _ => rfl
  | n + 1, h => by
    simp only [pend]
    rw [pend_late i ts k t n (by omega), upd_ne ts t (by omega)]
theorem pend_upd {T : Type} (i : Nat) (ts : Nat → Tr T) (k : Nat) (t : Tr T) : ∀ n, k < n → pend i (upd ts k t) n = pend i ts n - pd i (ts k) + pd i t
  | 0, h => by omega
  | n + 1, h => by
    simp only [pend]
    by_cases hk : k = n
    · subst hk
      rw [pend_late i ts k t k (Nat.le_refl _), upd_at]; omega
    · rw [pend_upd i ts k t n (by omega), upd_ne ts t (by omega)]; omega

end Go.Proofs.Ytmjkhefgpobinaa
namespace Go.Proofs.Ytmjkhefgpobinaa
open Go.ChangeShapes Go.WideShapes Go.ChangeAt Go.RowKit
/-- A state that may be. -/
def wfS (F : Int) (s : Cs) : Prop := 0 ≤ s.left ∧ (looseS s = true ∨ heldS s = true → 1 ≤ s.left ∧ s.fills < F) ∧ (s.flag = true → heldS s = true)
theorem loose_iff (s : Cs) : looseS s = true ↔ s.kind = 1 ∨ s.kind = 2 := by unfold looseS; rw [Bool.or_eq_true, decide_eq_true_eq, decide_eq_true_eq]
theorem held_iff (s : Cs) : heldS s = true ↔ s.kind = 3 ∨ s.kind = 4 := by unfold heldS; rw [Bool.or_eq_true, decide_eq_true_eq, decide_eq_true_eq]
theorem over_iff (s : Cs) : overS s = true ↔ 5 ≤ s.kind ∧ s.kind ≤ 8 := by unfold overS; rw [Bool.and_eq_true, decide_eq_true_eq, decide_eq_true_eq]
theorem not_true {b : Bool} (h : ¬ b = true) : b = false := by cases b <;> simp_all
theorem holdS_is {s : Cs} (h : looseS s = true) : heldS (holdS s) = true ∧ (holdS s).left = s.left ∧ (holdS s).fills = s.fills ∧ (holdS s).gen = s.gen ∧ (holdS s).flag = s.flag := by
  rw [loose_iff] at h
  rw [held_iff]
  unfold holdS
  rcases h with h | h
  · rw [if_pos h]; exact ⟨.inl rfl, rfl, rfl, rfl, rfl⟩
  · rw [if_neg (by omega), if_pos h]; exact ⟨.inr rfl, rfl, rfl, rfl, rfl⟩
theorem endS_is (s : Cs) (f : Int) : (endS s f).left = s.left ∧ (endS s f).fills = s.fills ∧ (endS s f).gen = s.gen ∧ ((endS s f).flag = true → s.flag = true) ∧ ((endS s f).kind = s.kind ∧ s.left ≠ 0 ∧ s.fills < f ∨ (endS s f).kind = 5 ∧ (endS s f).flag = false ∨ (endS s f).kind = 8 ∧ (endS s f).flag = false) := by
  unfold endS
  split
  · exact ⟨rfl, rfl, rfl, fun h => by simp at h, .inr (.inl ⟨rfl, rfl⟩)⟩
  · split
    · exact ⟨rfl, rfl, rfl, fun h => by simp at h, .inr (.inr ⟨rfl, rfl⟩)⟩
    · exact ⟨rfl, rfl, rfl, fun h => h, .inl ⟨rfl, by assumption, by omega⟩⟩
theorem paidS_is (s : Cs) (q : Int) (h : 0 ≤ q) : (paidS s q).left = s.left - q ∧ (paidS s q).kind = s.kind ∧ (paidS s q).flag = s.flag ∧ (paidS s q).gen = s.gen := by
  unfold paidS
  split
  · exact ⟨rfl, rfl, rfl, rfl⟩
  · exact ⟨by omega, rfl, rfl, rfl⟩
theorem loosenS_is {s : Cs} (h : heldS s = true) : looseS (loosenS s) = true ∧ (loosenS s).left = s.left ∧ (loosenS s).fills = s.fills ∧ (loosenS s).gen = s.gen ∧ (loosenS s).flag = s.flag := by
  rw [held_iff] at h
  rw [loose_iff]
  unfold loosenS
  rcases h with h | h
  · rw [if_pos h]; exact ⟨.inl rfl, rfl, rfl, rfl, rfl⟩
  · rw [if_neg (by omega), if_pos h]; exact ⟨.inr rfl, rfl, rfl, rfl, rfl⟩
/-- What a fill makes of a loose state. -/
theorem takeS_is {F q : Int} {s s' : Cs} (hw : wfS F s) (h : takeS s q F = some s') : looseS s = true ∧ 1 ≤ q ∧ q ≤ s.left ∧ s'.left = s.left - q ∧ heldS s' = false ∧ wfS F s' := by
  unfold takeS at h
  split at h
  · cases h
  · split at h
    · cases h
    · split at h
      · cases h
      · rename_i h1 h2 h3
        have hl : looseS s = true := by simpa using h1
        have hf : s.flag = false := by
          rcases e : s.flag with _ | _
          · rfl
          · have := hw.2.2 e
            rw [held_iff] at this
            rw [loose_iff] at hl
            omega
        simp only [Option.some.injEq] at h
        unfold spendS at h
        obtain ⟨p1, p2, p3, p4⟩ := paidS_is s q (by omega)
        obtain ⟨e1, e2, e3, e4, e5⟩ := endS_is (paidS s q) F
        rw [h] at e1 e2 e3 e4 e5
        rw [p1] at e1
        rw [p3, hf] at e4
        rw [p2] at e5
        have hl' := hl
        rw [loose_iff] at hl'
        have hh : ¬ heldS s' = true := by
          rw [held_iff]
          rcases e5 with ⟨e, _⟩ | ⟨e, _⟩ | ⟨e, _⟩ <;> omega
        refine ⟨hl, by omega, by omega, e1, not_true hh, by omega, ?_, fun e => absurd (e4 e) (by decide)⟩
        rintro (hx | hx)
        · rw [loose_iff] at hx
          rcases e5 with ⟨e, ea, eb⟩ | ⟨e, _⟩ | ⟨e, _⟩
          · rw [e2]; rw [p1] at ea; omega
          · omega
          · omega
        · exact absurd hx hh
/-- What becomes of a state that is let go. -/
theorem releaseS_is {F q : Int} {s s' : Cs} (h : releaseS s q F = some s') : heldS s = true ∧ 0 ≤ q ∧ q ≤ s.left ∧ s'.left = s.left - q ∧ heldS s' = false ∧ wfS F s' := by
  unfold releaseS at h
  split at h
  · cases h
  · split at h
    · cases h
    · split at h
      · cases h
      · rename_i h1 h2 h3
        have hl : heldS s = true := by simpa using h1
        simp only [Option.some.injEq] at h
        unfold spendS at h
        obtain ⟨l1, l2, l3, l4, l5⟩ := loosenS_is hl
        obtain ⟨p1, p2, p3, p4⟩ := paidS_is (loosenS s) q (by omega)
        obtain ⟨e1, e2, e3, e4, e5⟩ := endS_is (paidS (loosenS s) q) F
        rw [p1, l2] at e1
        rw [p2] at e5
        rw [loose_iff] at l1
        generalize endS (paidS (loosenS s) q) F = u at h e1 e2 e3 e4 e5
        have hq : 0 ≤ q ∧ q ≤ s.left := by omega
        rw [p1, l2] at e5
        rw [p3, l5] at e4
        unfold wishS at h
        split at h
        · subst h
          refine ⟨hl, hq.1, hq.2, e1, rfl, by show 0 ≤ u.left; omega, ?_, fun e => by simp at e⟩
          rintro (hx | hx)
          · rw [loose_iff] at hx; simp at hx
          · rw [held_iff] at hx; simp at hx
        · rename_i hn
          subst h
          have hh : ¬ heldS u = true := by
            rw [held_iff]
            rcases e5 with ⟨e, _⟩ | ⟨e, _⟩ | ⟨e, _⟩ <;> omega
          refine ⟨hl, hq.1, hq.2, e1, not_true hh, by omega, ?_, fun e => ?_⟩
          · rintro (hx | hx)
            · rw [loose_iff] at hx
              rcases e5 with ⟨e, ea, eb⟩ | ⟨e, _⟩ | ⟨e, _⟩
              · rw [e2]; omega
              · omega
              · omega
            · exact absurd hx hh
          · have ho : overS u = true := by
              rcases ho : overS u with _ | _
              · exact absurd ⟨ho, e⟩ hn
              · rfl
            rw [over_iff] at ho
            rcases e5 with ⟨e', _⟩ | ⟨_, e'⟩ | ⟨_, e'⟩
            · omega
            · rw [e'] at e; cases e
            · rw [e'] at e; cases e
theorem releaseS_some {F q : Int} {s : Cs} (h : heldS s = true) (h0 : 0 ≤ q) (h1 : q ≤ s.left) (hf : s.fills < F) : ∃ s', releaseS s q F = some s' := by
  unfold releaseS
  rw [if_neg (by rw [h]; decide), if_neg (by omega), if_neg (by omega)]
  exact ⟨_, rfl⟩
/-- Its owner's wish. -/
theorem cancelS_is {F : Int} {s s' : Cs} (hw : wfS F s) (h : cancelS s = some s') (hf : s.flag = false) : s'.left = s.left ∧ wfS F s' ∧ (looseS s = true ∧ heldS s' = false ∨ heldS s = true ∧ s' = { s with flag := true } ∧ heldS s' = true) := by
  unfold cancelS at h
  split at h
  · rename_i hl
    simp only [Option.some.injEq] at h
    subst h
    refine ⟨rfl, ⟨hw.1, ?_, fun e => ?_⟩, .inl ⟨hl, rfl⟩⟩
    · rintro (hx | hx)
      · rw [loose_iff] at hx; simp at hx
      · rw [held_iff] at hx; simp at hx
    · have e' : s.flag = true := e
      rw [hf] at e'; cases e'
  · split at h
    · rename_i hh
      simp only [Option.some.injEq] at h
      subst h
      have hh' : heldS { s with flag := true } = true := hh
      exact ⟨rfl, ⟨hw.1, fun _ => hw.2.1 (.inr hh), fun _ => hh'⟩, .inr ⟨hh, rfl, hh'⟩⟩
    · cases h

end Go.Proofs.Ytmjkhefgpobinaa
namespace Go.Proofs.Ytmjkhefgpobinaa
open Go.ChangeShapes Go.WideShapes Go.ChangeAt Go.RowKit
/-- Who holds its one still. -/
def hg {T : Type} (t : Tr T) : Prop := t.held = true ∧ t.freed = false
structure Loc {T : Type} (F : Int) (t : Tr T) (S : Nat → Cs) : Prop where
  out : t.ok = false → t.held = false ∧ t.made = false ∧ t.freed = false
  mh : t.made = true → t.held = true
  fh : t.freed = true → t.held = true
  h2 : t.pc ≤ 2 → t.held = false
  m5 : t.pc ≤ 5 → t.made = false
  f7 : t.pc ≤ 7 → t.freed = false
  q0 : t.made = false → t.q = 0
  q1 : t.made = true → 1 ≤ t.q ∧ t.q ≤ t.sx.left
  hold : hg t → heldS (S t.x) = true ∧ (S t.x).left = t.sx.left ∧ t.pc ≤ 9
  p7 : hg t → t.pc = 7 → S t.x = t.nw ∨ t.nw.flag = false ∧ S t.x = { t.nw with flag := true }
  p8 : hg t → t.pc = 8 → (S t.x).flag = true
  p9 : hg t → t.pc = 9 → S t.x = t.nw ∧ t.nw.flag = true
structure Inv {T : Type} (P : Pm T) (n : Nat) (ts : Nat → Tr T) (w : Mw T) (was : Nat → Int) : Prop where
  wf : ∀ i, wfS P.F (w.S i)
  loc : ∀ k, k < n → Loc P.F (ts k) w.S
  one : ∀ j k, j < n → k < n → hg (ts j) → hg (ts k) → (ts j).x = (ts k).x → j = k
  own : ∀ i, heldS (w.S i) = true → ∃ k, k < n ∧ hg (ts k) ∧ (ts k).x = i
  sum : ∀ i, (w.S i).left + doneL i w.log = was i + pend i ts n
  two : ∀ k, k < n → (ts k).ok = true → (ts k).x ≠ (ts k).y
/-- A try with what it holds as it was. -/
theorem Loc.keep {T : Type} {F : Int} {t : Tr T} {S S' : Nat → Cs} (h : Loc F t S) (hs : hg t → S' t.x = S t.x) : Loc F t S' where
  out := h.out
  mh := h.mh
  fh := h.fh
  h2 := h.h2
  m5 := h.m5
  f7 := h.f7
  q0 := h.q0
  q1 := h.q1
  hold := fun g => by rw [hs g]; exact h.hold g
  p7 := fun g e => by rw [hs g]; exact h.p7 g e
  p8 := fun g e => by rw [hs g]; exact h.p8 g e
  p9 := fun g e => by rw [hs g]; exact h.p9 g e
theorem Inv.put {T : Type} {P : Pm T} {n : Nat} {ts : Nat → Tr T} {w : Mw T} {was : Nat → Int} (h : Inv P n ts w was) (k : Nat) (hk : k < n) (t : Tr T) (w' : Mw T)
    (hwf : ∀ i, wfS P.F (w'.S i)) (hloc : Loc P.F t w'.S)
    (hoth : ∀ j, j < n → j ≠ k → hg (ts j) → w'.S (ts j).x = w.S (ts j).x)
    (hown : hg t → ∀ j, j < n → j ≠ k → hg (ts j) → (ts j).x ≠ t.x)
    (hheld : ∀ i, heldS (w'.S i) = true → (hg t ∧ t.x = i) ∨ ∃ j, j < n ∧ j ≠ k ∧ hg (ts j) ∧ (ts j).x = i)
    (hsum : ∀ i, (w'.S i).left + doneL i w'.log - pd i t = (w.S i).left + doneL i w.log - pd i (ts k))
    (hxy : t.ok = true → t.x ≠ t.y) : Inv P n (upd ts k t) w' was where
  wf := hwf
  loc := fun j hj => by
    by_cases e : j = k
    · subst e; rw [upd_at]; exact hloc
    · rw [upd_ne ts t e]; exact (h.loc j hj).keep (hoth j hj e)
  one := fun i j hi hj gi gj e => by
    by_cases ei : i = k
    · by_cases ej : j = k
      · omega
      · subst ei
        rw [upd_at] at gi e
        rw [upd_ne ts t ej] at gj e
        exact absurd e.symm (hown gi j hj ej gj)
    · rw [upd_ne ts t ei] at gi e
      by_cases ej : j = k
      · subst ej
        rw [upd_at] at gj e
        exact absurd e (hown gj i hi ei gi)
      · rw [upd_ne ts t ej] at gj e
        exact h.one i j hi hj gi gj e
  own := fun i hi => by
    rcases hheld i hi with ⟨g, e⟩ | ⟨j, hj, ne, g, e⟩
    · exact ⟨k, hk, by rw [upd_at]; exact g, by rw [upd_at]; exact e⟩
    · exact ⟨j, hj, by rw [upd_ne ts t ne]; exact g, by rw [upd_ne ts t ne]; exact e⟩
  sum := fun i => by
    rw [pend_upd i ts k t n hk]
    have := hsum i
    have := h.sum i
    omega
  two := fun j hj => by
    by_cases e : j = k
    · subst e; rw [upd_at]; exact hxy
    · rw [upd_ne ts t e]; exact h.two j hj
/-- A step that changes no state. -/
theorem Inv.calm {T : Type} {P : Pm T} {n : Nat} {ts : Nat → Tr T} {w : Mw T} {was : Nat → Int} (h : Inv P n ts w was) (k : Nat) (hk : k < n) (t : Tr T) (hloc : Loc P.F t w.S) (hx : t.x = (ts k).x) (hy : t.y = (ts k).y) (ho : t.ok = (ts k).ok) (hh : t.held = (ts k).held) (hf : t.freed = (ts k).freed) (hm : t.made = (ts k).made) (hq : t.q = (ts k).q) : Inv P n (upd ts k t) w was := by
  have hgt : hg t ↔ hg (ts k) := by unfold hg; rw [hh, hf]
  refine h.put k hk t w h.wf hloc (fun _ _ _ _ => rfl) (fun g j hj ne gj e => ne (h.one j k hj hk gj (hgt.1 g) (e.trans hx))) (fun i hi => ?_) (fun i => ?_) (fun e => by rw [hx, hy]; exact h.two k hk (ho ▸ e))
  · obtain ⟨j, hj, g, e⟩ := h.own i hi
    by_cases ej : j = k
    · subst ej; exact .inl ⟨hgt.2 g, hx.trans e⟩
    · exact .inr ⟨j, hj, ej, g, e⟩
  · have : pd i t = pd i (ts k) := by unfold pd; rw [hm, hf, hx, hq]
    omega
/-- A step from where nothing is known of it. -/
theorem Loc.next {T : Type} {F : Int} {t t' : Tr T} {S : Nat → Cs} (h : Loc F t S) (hx : t'.x = t.x) (ho : t'.ok = t.ok) (hh : t'.held = t.held) (hf : t'.freed = t.freed) (hm : t'.made = t.made) (hq : t'.q = t.q) (hs : t.made = true ∨ t.held = true → t'.sx = t.sx) (hp : t.pc ≤ t'.pc) (hp9 : hg t → t'.pc ≤ 9) (h7 : hg t → t'.pc = 7 → S t'.x = t'.nw ∨ t'.nw.flag = false ∧ S t'.x = { t'.nw with flag := true }) (h8 : hg t → t'.pc = 8 → (S t'.x).flag = true) (h9 : hg t → t'.pc = 9 → S t'.x = t'.nw ∧ t'.nw.flag = true) : Loc F t' S := by
  have hgt : hg t' ↔ hg t := by unfold hg; rw [hh, hf]
  exact {
    out := fun e => by rw [hh, hm, hf]; exact h.out (ho ▸ e)
    mh := fun e => by rw [hh]; exact h.mh (hm ▸ e)
    fh := fun e => by rw [hh]; exact h.fh (hf ▸ e)
    h2 := fun e => by rw [hh]; exact h.h2 (by omega)
    m5 := fun e => by rw [hm]; exact h.m5 (by omega)
    f7 := fun e => by rw [hf]; exact h.f7 (by omega)
    q0 := fun e => by rw [hq]; exact h.q0 (hm ▸ e)
    q1 := fun e => by rw [hq, hs (.inl (hm ▸ e))]; exact h.q1 (hm ▸ e)
    hold := fun g => by rw [hx, hs (.inr (hgt.1 g).1)]; have := h.hold (hgt.1 g); exact ⟨this.1, this.2.1, hp9 (hgt.1 g)⟩
    p7 := fun g => h7 (hgt.1 g)
    p8 := fun g => h8 (hgt.1 g)
    p9 := fun g => h9 (hgt.1 g) }

end Go.Proofs.Ytmjkhefgpobinaa
namespace Go.Proofs.Ytmjkhefgpobinaa
open Go.ChangeShapes Go.WideShapes Go.ChangeAt Go.RowKit
theorem holdS_wf {F : Int} {s : Cs} (hw : wfS F s) (h : looseS s = true) : wfS F (holdS s) := by
  obtain ⟨h1, h2, h3, _, h5⟩ := holdS_is h
  refine ⟨by rw [h2]; exact hw.1, fun _ => by rw [h2, h3]; exact hw.2.1 (.inl h), fun _ => h1⟩
theorem mayHold_loose {T : Type} {P : Pm T} {t : Tr T} (h : mayHold P t = true) : looseS t.sx = true := by
  unfold mayHold at h
  rw [loose_iff]
  split at h
  · rw [Bool.and_eq_true, decide_eq_true_eq] at h
    exact .inl h.1
  · split at h
    · rw [Bool.and_eq_true, decide_eq_true_eq] at h
      exact .inr h.1
    · cases h
theorem loose_not_held {s : Cs} (h : looseS s = true) (g : heldS s = true) : False := by
  rw [loose_iff] at h
  rw [held_iff] at g
  omega
section
variable {T : Type} {P : Pm T} {n : Nat} {ts : Nat → Tr T} {w : Mw T} {was : Nat → Int}
/-- Who holds another one than the one that is turned from loose. -/
theorem Inv.apart (h : Inv P n ts w was) {i : Nat} (hl : looseS (w.S i) = true) {j : Nat} (hj : j < n) (g : hg (ts j)) : (ts j).x ≠ i := fun e => by
  have := ((h.loc j hj).hold g).1
  rw [e] at this
  exact loose_not_held hl this
theorem Inv.stHold (h : Inv P n ts w was) (k : Nat) (hk : k < n) (hpc : (ts k).pc = 2) (hok : (ts k).ok = true) : Inv P n (upd ts k (stHold P { ts k with pc := 3 } w).1) (stHold P { ts k with pc := 3 } w).2 was := by
  have hl := h.loc k hk
  have hh := hl.h2 (by omega)
  have hm := hl.m5 (by omega)
  have hf := hl.f7 (by omega)
  have hng : ¬ hg (ts k) := fun g => by
    have e := g.1
    rw [hh] at e; cases e
  have hcalm : Inv P n (upd ts k { ts k with pc := 3 }) w was :=
    h.calm k hk _ (hl.next rfl rfl rfl rfl rfl rfl (fun _ => rfl) (by show (ts k).pc ≤ 3; omega) (fun g => absurd g hng) (fun g => absurd g hng) (fun g => absurd g hng) (fun g => absurd g hng)) rfl rfl rfl rfl rfl rfl rfl
  unfold Go.Proofs.Ytmjkhefgpobinaa.stHold
  split
  · rename_i hmay
    have hlo : looseS (ts k).sx = true := mayHold_loose hmay
    split
    · rename_i hS
      have hS' : w.S (ts k).x = (ts k).sx := hS
      have hlS : looseS (w.S (ts k).x) = true := by rw [hS']; exact hlo
      obtain ⟨a1, a2, a3, a4, a5⟩ := holdS_is hlo
      refine h.put k hk _ _ (fun i => ?_) ?_ (fun j hj ne g => upd_ne _ _ (h.apart hlS hj g)) (fun _ j hj ne g => h.apart hlS hj g) (fun i hi => ?_) (fun i => ?_) (fun _ => h.two k hk hok)
      · show wfS P.F (upd w.S (ts k).x (holdS (ts k).sx) i)
        by_cases e : i = (ts k).x
        · rw [e, upd_at]
          have := h.wf (ts k).x
          rw [hS'] at this
          exact holdS_wf this hlo
        · rw [upd_ne _ _ e]; exact h.wf i
      · refine ⟨fun e => ?_, fun _ => rfl, fun _ => rfl, fun e => ?_, fun _ => hm, fun _ => hf, hl.q0, fun e => ?_, fun _ => ⟨?_, ?_, (by decide : 3 ≤ 9)⟩, fun _ e => ?_, fun _ e => ?_, fun _ e => ?_⟩
        · have e' : (ts k).ok = false := e
          rw [hok] at e'; cases e'
        · have e' : 3 ≤ 2 := e
          omega
        · have e' : (ts k).made = true := e
          rw [hm] at e'; cases e'
        · show heldS (upd w.S (ts k).x (holdS (ts k).sx) (ts k).x) = true
          rw [upd_at]; exact a1
        · show (upd w.S (ts k).x (holdS (ts k).sx) (ts k).x).left = (ts k).sx.left
          rw [upd_at]; exact a2
        · have e' : 3 = 7 := e
          omega
        · have e' : 3 = 8 := e
          omega
        · have e' : 3 = 9 := e
          omega
      · have hi' : heldS (upd w.S (ts k).x (holdS (ts k).sx) i) = true := hi
        by_cases e : i = (ts k).x
        · exact .inl ⟨⟨rfl, hf⟩, e.symm⟩
        · rw [upd_ne _ _ e] at hi'
          obtain ⟨j, hj, g, ej⟩ := h.own i hi'
          exact .inr ⟨j, hj, fun q => hng (q ▸ g), g, ej⟩
      · show (upd w.S (ts k).x (holdS (ts k).sx) i).left + doneL i w.log - pd i _ = _
        have p1 : pd i { ts k with pc := 3, held := true } = 0 := by unfold pd; rw [if_neg]; rintro ⟨q, _⟩; have q' : (ts k).made = true := q; rw [hm] at q'; cases q'
        have p2 : pd i (ts k) = 0 := by unfold pd; rw [if_neg]; rintro ⟨q, _⟩; rw [hm] at q; cases q
        have p3 : (upd w.S (ts k).x (holdS (ts k).sx) i).left = (w.S i).left := by
          by_cases e : i = (ts k).x
          · rw [e, upd_at, a2, hS']
          · rw [upd_ne _ _ e]
        rw [p2, p3]
        show _ - pd i { ts k with pc := 3, held := true } = _
        rw [p1]
    · refine h.calm k hk _ (hl.next rfl rfl ?_ rfl rfl rfl (fun _ => rfl) (by show (ts k).pc ≤ 3; omega) (fun g => absurd g hng) (fun g => absurd g hng) (fun g => absurd g hng) (fun g => absurd g hng)) rfl rfl rfl ?_ rfl rfl rfl
      · exact hh.symm
      · exact hh.symm
  · exact hcalm
theorem Inv.stTake (hP : ∀ a b l m q p, P.mt a b l m = some (q, p) → 1 ≤ q ∧ q ≤ l) (h : Inv P n ts w was) (k : Nat) (hk : k < n) (hpc : (ts k).pc = 5) (hok : (ts k).ok = true) : Inv P n (upd ts k (stTake P { ts k with pc := 6 } w).1) (stTake P { ts k with pc := 6 } w).2 was := by
  have hl := h.loc k hk
  have hm := hl.m5 (by omega)
  have hf := hl.f7 (by omega)
  have hcalm : Inv P n (upd ts k { ts k with pc := 6 }) w was :=
    h.calm k hk _ (hl.next rfl rfl rfl rfl rfl rfl (fun _ => rfl) (by show (ts k).pc ≤ 6; omega) (fun _ => (by decide : 6 ≤ 9)) (fun _ e => absurd e (by show ¬ 6 = 7; decide)) (fun _ e => absurd e (by show ¬ 6 = 8; decide)) (fun _ e => absurd e (by show ¬ 6 = 9; decide))) rfl rfl rfl rfl rfl rfl rfl
  unfold Go.Proofs.Ytmjkhefgpobinaa.stTake
  split
  · rename_i hc
    have hheld : (ts k).held = true := hc.1
    have hgk : hg (ts k) := ⟨hheld, hf⟩
    split
    · exact hcalm
    · rename_i q p hmt
      have hq := hP _ _ _ _ _ _ hmt
      split
      · exact hcalm
      · rename_i s htk
        split
        · rename_i hS
          have hS' : w.S (ts k).y = (ts k).sy := hS
          have hwy := h.wf (ts k).y
          rw [hS'] at hwy
          obtain ⟨b1, b2, b3, b4, b5, b6⟩ := takeS_is hwy htk
          have hlS : looseS (w.S (ts k).y) = true := by rw [hS']; exact b1
          have hxy := h.two k hk hok
          have hold := hl.hold hgk
          refine h.put k hk _ _ (fun i => ?_) ?_ (fun j hj ne g => upd_ne _ _ (h.apart hlS hj g)) (fun _ j hj ne g e => ne (h.one j k hj hk g hgk e)) (fun i hi => ?_) (fun i => ?_) (fun _ => hxy)
          · show wfS P.F (upd w.S (ts k).y s i)
            by_cases e : i = (ts k).y
            · rw [e, upd_at]; exact b6
            · rw [upd_ne _ _ e]; exact h.wf i
          · refine ⟨fun e => ?_, fun _ => hheld, fun _ => hheld, fun e => ?_, fun e => ?_, fun _ => hf, fun e => ?_, fun _ => hq, fun _ => ⟨?_, ?_, (by decide : 6 ≤ 9)⟩, fun _ e => ?_, fun _ e => ?_, fun _ e => ?_⟩
            · have e' : (ts k).ok = false := e
              rw [hok] at e'; cases e'
            · have e' : 6 ≤ 2 := e
              omega
            · have e' : 6 ≤ 5 := e
              omega
            · cases e
            · show heldS (upd w.S (ts k).y s (ts k).x) = true
              rw [upd_ne _ _ hxy]; exact hold.1
            · show (upd w.S (ts k).y s (ts k).x).left = (ts k).sx.left
              rw [upd_ne _ _ hxy]; exact hold.2.1
            · have e' : 6 = 7 := e
              omega
            · have e' : 6 = 8 := e
              omega
            · have e' : 6 = 9 := e
              omega
          · have hi' : heldS (upd w.S (ts k).y s i) = true := hi
            by_cases e : i = (ts k).y
            · rw [e, upd_at, b5] at hi'; cases hi'
            · rw [upd_ne _ _ e] at hi'
              obtain ⟨j, hj, g, ej⟩ := h.own i hi'
              by_cases ejk : j = k
              · subst ejk; exact .inl ⟨hgk, ej⟩
              · exact .inr ⟨j, hj, ejk, g, ej⟩
          · show (upd w.S (ts k).y s i).left + doneL i (w.log ++ [.fill (ts k).x (ts k).sx.gen (ts k).y (ts k).sy.gen q p w.now]) - (if true = true ∧ (ts k).freed = false ∧ (ts k).x = i then q else 0) = _
            have p2 : pd i (ts k) = 0 := by unfold pd; rw [if_neg]; rintro ⟨q, _⟩; rw [hm] at q; cases q
            rw [p2, doneL_app]
            simp only [doneL, lgq]
            by_cases e : i = (ts k).y
            · have ex : ¬ (ts k).x = i := fun q => hxy (q.trans e)
              rw [if_neg ex, if_pos e.symm, if_neg (fun q => ex q.2.2), e, upd_at, b4, hS']
              omega
            · rw [if_neg (show ¬ (ts k).y = i from fun q => e q.symm), upd_ne _ _ e]
              by_cases ex : (ts k).x = i
              · rw [if_pos ex, if_pos ⟨trivial, hf, ex⟩]; omega
              · rw [if_neg ex, if_neg (fun q => ex q.2.2)]; omega
        · exact hcalm
  · exact hcalm
end

end Go.Proofs.Ytmjkhefgpobinaa

/-
  StateAt, TermsAt, SlotAt, and the document's At.
-/
import Derived.Test.YtdjdpbgemdmpiaaRows
import Derived.WalkKit
import Derived.ProofKit
import Derived.OpenShut
import Derived.ShutString
import Derived.Below
import Derived.Outline
import Derived.WalkLawsBesides
import Derived.WalkSpells
import Derived.Handy
import Derived.Deep.QuietTactic
import Derived.BigQuiet
import Derived.RegionTactic
import Derived.ChangeAlike
import Derived.Lib.Hide
import Derived.Laws.Rows
import Derived.Laws.Tables
import Derived.Laws.CopyOwn
import Derived.Laws.MakeOwn
import Derived.Laws.Entries
import Derived.Laws.OwnMore
import Derived.Deep.WholeRow
import Derived.Deep.LoopGhost
import Derived.Deep.AppendLies
import Derived.Deep.Draws
import Derived.Maps.AppendAt
import Derived.OwnWalk
import Derived.Deep.RegionHeld3
import Derived.Deep.Cut
import Derived.Deep.CutRange
import Derived.Deep.DeepCutAuto
import Derived.Deep.CutBlock
import Derived.Lib.SliceRun
import Derived.IntWalk
import Derived.Test.YtdjdpbgemdmpiaaKit
import Derived.Test.YtdjdpbgemdmpiaaApp
import Derived.Test.YtdjdpbgemdmpiaaPl
import Derived.Test.YtdjdpbgemdmpiaaPlaces
import Derived.Test.YtdjdpbgemdmpiaaQuiet
import Derived.Test.YtdjdpbgemdmpiaaRules
namespace Go.Proofs.Ytdjdpbgemdmpiaa
open Go.ChangeShapes Go.WideShapes Go.ChangeAt Go.RowKit
/-- A block of seven numbers. -/
def Blk7 (B : Nat) (v0 v1 v2 v3 v4 v5 v6 : Int) (w : World) : Prop :=
  (w.cell? ⟨B, 0, none⟩ = some (.int .i64 v0) ∧ w.cell? ⟨B, 1, none⟩ = some (.int .i64 v1) ∧ w.cell? ⟨B, 2, none⟩ = some (.int .i64 v2) ∧ w.cell? ⟨B, 3, none⟩ = some (.int .i64 v3) ∧ w.cell? ⟨B, 4, none⟩ = some (.int .i64 v4) ∧ w.cell? ⟨B, 5, none⟩ = some (.int .i64 v5) ∧ w.cell? ⟨B, 6, none⟩ = some (.int .i64 v6)) ∧ B < w.heap.size
theorem Blk7.below {B : Nat} {v0 v1 v2 v3 v4 v5 v6 : Int} {w w' : World} (h : Blk7 B v0 v1 v2 v3 v4 v5 v6 w) (hb : Below w.heap.size w w') : Blk7 B v0 v1 v2 v3 v4 v5 v6 w' := by
  obtain ⟨⟨c0, c1, c2, c3, c4, c5, c6⟩, hl⟩ := h
  have hc : ∀ o, w'.cell? ⟨B, o, none⟩ = w.cell? ⟨B, o, none⟩ := fun o => hb.cell (p := ⟨B, o, none⟩) hl
  exact ⟨⟨(hc 0).trans c0, (hc 1).trans c1, (hc 2).trans c2, (hc 3).trans c3, (hc 4).trans c4, (hc 5).trans c5, (hc 6).trans c6⟩, Nat.lt_of_lt_of_le hl hb.size⟩
theorem Blk7.new (w : World) (v0 v1 v2 v3 v4 v5 v6 : Int) (t : TypeId) : Blk7 w.heap.size v0 v1 v2 v3 v4 v5 v6 (w.alloc (.cells #[.int .i64 v0, .int .i64 v1, .int .i64 v2, .int .i64 v3, .int .i64 v4, .int .i64 v5, .int .i64 v6] t)) := by
  refine ⟨⟨?_, ?_, ?_, ?_, ?_, ?_, ?_⟩, ?_⟩ <;> simp [go_sem]
theorem all_is (p c A : Nat) (n b r f g : Int) (w : World) (hA : A = p * c) (hA4 : A ≤ 24) : Calls Try.prog 56 #[.agg #[.int .i64 (p : Int), .int .i64 (c : Int), .int .i64 n, .int .i64 b, .int .i64 r, .int .i64 f, .int .i64 g]] w fun e w' => e = .returned (.int .i64 (A : Int)) ∧ Below w.heap.size w w' := by
  have HAA := Lib.hid (show (p : Int) * (c : Int) = (A : Int) from by rw [hA]; rfl)
  have m0 : (0 : Int) ≤ (p : Int) * (c : Int) := by rw [HAA.out]; omega
  have m1 : (p : Int) * (c : Int) ≤ 24 := by rw [HAA.out]; omega
  clear hA
  go_enter Try.func56, Try.ntmps56
  go_wp2
  go_ret
  exact ⟨by show Ending.returned (.int .i64 ((p : Int) * (c : Int))) = _; rw [HAA.out], by go_grown⟩
theorem slots_is (p c n b r f g : Int) (w : World) (hf : 0 ≤ f ∧ f ≤ 4) : Calls Try.prog 57 #[.agg #[.int .i64 p, .int .i64 c, .int .i64 n, .int .i64 b, .int .i64 r, .int .i64 f, .int .i64 g]] w fun e w' => e = .returned (.int .i64 (f + 1)) ∧ Below w.heap.size w w' := by
  obtain ⟨f0, f1⟩ := hf
  go_enter Try.func57, Try.ntmps57
  go_wp2
  go_ret
  exact ⟨rfl, by go_grown⟩
theorem within_no (x m : Int) (w : World) (h : x < 0 ∨ m ≤ x) : Calls Try.prog 55 #[.int .i64 x, .int .i64 m] w fun e w' => e = .returned (.bool false) ∧ w = w' := by
  by_cases h0 : x < 0
  · have hd : decide (0 ≤ x) = false := decide_eq_false (by omega)
    clear h
    go_enter Try.func55, Try.ntmps55
    go_wp2
    go_ret
    exact ⟨rfl, rfl⟩
  · have h1 : 0 ≤ x := by omega
    have hd : decide (x < m) = false := decide_eq_false (by omega)
    clear h
    go_enter Try.func55, Try.ntmps55
    go_wp2
    go_ret
    exact ⟨rfl, rfl⟩
set_option maxHeartbeats 1000000 in
theorem state_at (p c A i : Nat) (n b r f g : Int) (w : World) (hA : A = p * c) (hA4 : A ≤ 24) (hi : i < A) : Calls Try.prog 29 #[.agg #[.int .i64 (p : Int), .int .i64 (c : Int), .int .i64 n, .int .i64 b, .int .i64 r, .int .i64 f, .int .i64 g], .int .i64 (i : Int)] w fun e w' => e = .returned (.int .i64 (2 * (i : Int))) ∧ Below w.heap.size w w' := by
  have HAL := Lib.hid (fun W => all_is p c A n b r f g W hA hA4)
  have i0 : (0 : Int) ≤ (i : Int) := by omega
  have i1 : (i : Int) ≤ 24 := by omega
  clear hA
  go_enter Try.func29, Try.ntmps29
  go_wp2_with fail
  refine (HAL.out _).mono ?_
  rintro e w1 ⟨rfl, hb1⟩
  have hB1 : Below w.heap.size w w1 := Below.step (by go_grown) hb1
  clear hb1
  go_wp2_with fail
  refine (within_yes _ _ _ (by omega) (by omega)).mono ?_
  rintro e w' ⟨rfl, rfl⟩
  go_wp2
  go_ret
  exact ⟨rfl, hB1⟩
set_option maxHeartbeats 1000000 in
theorem terms_at (p c A i : Nat) (n b r f g : Int) (w : World) (hA : A = p * c) (hA4 : A ≤ 24) (hi : i < A) : Calls Try.prog 30 #[.agg #[.int .i64 (p : Int), .int .i64 (c : Int), .int .i64 n, .int .i64 b, .int .i64 r, .int .i64 f, .int .i64 g], .int .i64 (i : Int)] w fun e w' => e = .returned (.int .i64 (2 * (i : Int) + 1)) ∧ Below w.heap.size w w' := by
  have HAL := Lib.hid (fun W => all_is p c A n b r f g W hA hA4)
  have i0 : (0 : Int) ≤ (i : Int) := by omega
  have i1 : (i : Int) ≤ 24 := by omega
  clear hA
  go_enter Try.func30, Try.ntmps30
  go_wp2_with fail
  refine (HAL.out _).mono ?_
  rintro e w1 ⟨rfl, hb1⟩
  have hB1 : Below w.heap.size w w1 := Below.step (by go_grown) hb1
  clear hb1
  go_wp2_with fail
  refine (within_yes _ _ _ (by omega) (by omega)).mono ?_
  rintro e w' ⟨rfl, rfl⟩
  go_wp2
  go_ret
  exact ⟨rfl, hB1⟩
set_option maxRecDepth 100000 in
set_option maxHeartbeats 4000000 in
theorem slot_in (p c A i t q f g : Nat) (n b r : Int) (w : World) (hA : A = p * c) (hA4 : A ≤ 24) (hf : f ≤ 4) (hg : g ≤ 15) (hi : i < A) (ht : t < g) (hq : q < f + 1) : Calls Try.prog 31 #[.agg #[.int .i64 (p : Int), .int .i64 (c : Int), .int .i64 n, .int .i64 b, .int .i64 r, .int .i64 (f : Int), .int .i64 (g : Int)], .int .i64 (i : Int), .int .i64 ((t : Int) + 1), .int .i64 (q : Int)] w fun e w' => e = .returned (.int .i64 ((ix A g (f + 1) i t q : Nat) : Int)) ∧ Below w.heap.size w w' := by
  have HAL := Lib.hid (fun W => all_is p c A n b r f g W hA hA4)
  have HSL := Lib.hid (fun W => slots_is p c n b r f g W (by omega))
  clear hA
  have i0 : (0 : Int) ≤ (i : Int) := by omega
  have i1 : (i : Int) ≤ 24 := by omega
  have t0 : (1 : Int) ≤ (t : Int) + 1 := by omega
  have t1 : (t : Int) + 1 ≤ (g : Int) := by omega
  have q0 : (0 : Int) ≤ (q : Int) := by omega
  have q1 : (q : Int) ≤ (f : Int) := by omega
  have hf1 : (f : Int) ≤ 4 := by omega
  have hg1 : (g : Int) ≤ 15 := by omega
  have bx0 := Blk7.new w p c n b r f g 60
  have hig : i * g ≤ 24 * 15 := Nat.mul_le_mul (by omega) hg
  have HIG := Lib.hid (show (i : Int) * (g : Int) = ((i * g : Nat) : Int) from rfl)
  have hm : (i * g + t) * (f + 1) ≤ 400 * 5 := Nat.mul_le_mul (by omega) (by omega)
  have HM := Lib.hid (show (((i * g : Nat) : Int) + (t : Int)) * ((f : Int) + 1) = (((i * g + t) * (f + 1) : Nat) : Int) from by simp [Int.natCast_mul, Int.natCast_add])
  have e1 : IntKind.i64.wrap (2 * (A : Int)) = 2 * (A : Int) := IntWalk.i64_in _ (by omega)
  have e2 : IntKind.i64.wrap ((i : Int) * (g : Int)) = ((i * g : Nat) : Int) := by rw [HIG.out]; exact IntWalk.i64_in _ (by omega)
  have e3 : IntKind.i64.wrap (((i * g : Nat) : Int) + ((t : Int) + 1)) = ((i * g : Nat) : Int) + (t : Int) + 1 := by rw [IntWalk.i64_in _ (by omega)]; omega
  have e4 : IntKind.i64.wrap (((i * g : Nat) : Int) + (t : Int) + 1 - 1) = ((i * g : Nat) : Int) + (t : Int) := by rw [IntWalk.i64_in _ (by omega)]; omega
  have e5 : IntKind.i64.wrap ((((i * g : Nat) : Int) + (t : Int)) * ((f : Int) + 1)) = (((i * g + t) * (f + 1) : Nat) : Int) := by rw [HM.out]; exact IntWalk.i64_in _ (by omega)
  have e6 : IntKind.i64.wrap (2 * (A : Int) + (((i * g + t) * (f + 1) : Nat) : Int)) = 2 * (A : Int) + (((i * g + t) * (f + 1) : Nat) : Int) := IntWalk.i64_in _ (by omega)
  have e7 : IntKind.i64.wrap (2 * (A : Int) + (((i * g + t) * (f + 1) : Nat) : Int) + (q : Int)) = 2 * (A : Int) + (((i * g + t) * (f + 1) : Nat) : Int) + (q : Int) := IntWalk.i64_in _ (by omega)
  have HFIN := Lib.hid (show wrap64 (wrap64 (2 * (A : Int) + wrap64 (wrap64 (((i * g : Nat) : Int) + (t : Int)) * ((f : Int) + 1))) + (q : Int)) = ((ix A g (f + 1) i t q : Nat) : Int) from by
    rw [IntWalk.wrap64_in (((i * g : Nat) : Int) + (t : Int)) (by omega), HM.out, IntWalk.wrap64_in (((i * g + t) * (f + 1) : Nat) : Int) (by omega), IntWalk.wrap64_in (2 * (A : Int) + (((i * g + t) * (f + 1) : Nat) : Int)) (by omega), IntWalk.wrap64_in _ (by omega)]
    unfold ix; omega)
  generalize (((i * g + t) * (f + 1) : Nat) : Int) = X at *
  generalize ((i * g : Nat) : Int) = Y at *
  have E := Lib.hid (And.intro e1 (And.intro e2 (And.intro e3 (And.intro e4 (And.intro e5 (And.intro e6 e7))))))
  clear e1 e2 e3 e4 e5 e6 e7 HIG HM hig hm
  go_enter Try.func31, Try.ntmps31
  go_wp2_with fail
  refine (HAL.out _).mono ?_
  rintro e w1 ⟨rfl, hb1⟩
  have bx1 := Blk7.below bx0 hb1
  have hB1 : Below w.heap.size w w1 := Below.step (by go_grown) hb1
  clear hb1 bx0
  obtain ⟨⟨c0, c1, c2, c3, c4, c5, c6⟩, hl⟩ := id bx1
  go_wp2_with fail
  refine (within_yes _ _ _ (by omega) (by omega)).mono ?_
  rintro e w' ⟨rfl, rfl⟩
  go_wp2_with fail
  refine (HSL.out _).mono ?_
  rintro e w2 ⟨rfl, hb2⟩
  have bx2 := Blk7.below bx1 hb2
  have hB2 : Below w.heap.size w w2 := Below.step hB1 hb2
  clear hb2 bx1 c0 c1 c2 c3 c4 c5 c6
  go_wp2_with fail
  refine (within_yes _ _ _ (by omega) (by omega)).mono ?_
  rintro e w' ⟨rfl, rfl⟩
  go_wp2_with fail
  obtain ⟨e1, e2, e3, e4, e5, e6, e7⟩ := E.out
  refine region_sc (by kernel_rfl) (by kernel_rfl) ?_
  go_big_quiet_want
  refine ⟨.agg #[.int .i64 (p : Int), .int .i64 (c : Int), .int .i64 n, .int .i64 b, .int .i64 r, .int .i64 (f : Int), .int .i64 (g : Int)], fun wq hq => ?_, ?_⟩
  · obtain ⟨⟨q0, q1, q2, q3, q4, q5, q6⟩, _⟩ := Blk7.below bx2 hq
    unfold Oper.quietAt
    simp [go_sem, q0, q1, q2, q3, q4, q5, q6, Oper.quietUpon]
  simp only [Act.put, List.setIfInBounds_toArray, List.set_cons_zero, List.set_cons_succ]
  go_big_quiet_on
  go_big_quiet_want
  go_big_quiet_op
  refine ⟨_, fun wq hq => Sc.call HAL.out hq, ?_⟩
  go_big_quiet_on
  iterate 4 (first | go_big_quiet_skip | (go_big_quiet_want; go_big_quiet_op; first | go_big_quiet_on | (refine ⟨_, fun _ _ => rfl, ?_⟩; go_big_quiet_on)))
  go_big_quiet_want
  refine ⟨.int .i64 (g : Int), fun wq hq => ?_, ?_⟩
  · obtain ⟨⟨q0, q1, q2, q3, q4, q5, q6⟩, _⟩ := Blk7.below bx2 hq
    unfold Oper.quietAt
    simp [go_sem, q6, Oper.quietUpon]
  simp only [Act.put, List.setIfInBounds_toArray, List.set_cons_zero, List.set_cons_succ]
  go_big_quiet_on
  iterate 4 (first | go_big_quiet_skip | (go_big_quiet_want; go_big_quiet_op; first | go_big_quiet_on | (refine ⟨_, fun _ _ => rfl, ?_⟩; go_big_quiet_on)))
  go_big_quiet_want
  refine ⟨.agg #[.int .i64 (p : Int), .int .i64 (c : Int), .int .i64 n, .int .i64 b, .int .i64 r, .int .i64 (f : Int), .int .i64 (g : Int)], fun wq hq => ?_, ?_⟩
  · obtain ⟨⟨q0, q1, q2, q3, q4, q5, q6⟩, _⟩ := Blk7.below bx2 hq
    unfold Oper.quietAt
    simp [go_sem, q0, q1, q2, q3, q4, q5, q6, Oper.quietUpon]
  simp only [Act.put, List.setIfInBounds_toArray, List.set_cons_zero, List.set_cons_succ]
  go_big_quiet_on
  go_big_quiet_want
  go_big_quiet_op
  refine ⟨_, fun wq hq => Sc.call HSL.out hq, ?_⟩
  go_big_quiet_on
  iterate 5 (first | go_big_quiet_skip | (go_big_quiet_want; go_big_quiet_op; first | go_big_quiet_on | (refine ⟨_, fun _ _ => rfl, ?_⟩; go_big_quiet_on)))
  refine wpQuiet_nil ?_
  intro w3 hv
  have hB3 : Below w.heap.size w w3 := Below.step hB2 hv
  clear hv e1 e2 e3 e4 e5 e6 e7
  go_wp2
  go_ret
  exact ⟨by rw [← HFIN.out]; rfl, hB3⟩
set_option maxRecDepth 100000 in
set_option maxHeartbeats 4000000 in
theorem slot_out_x (p c A f g : Nat) (n b r x y z : Int) (w : World) (hA : A = p * c) (hA4 : A ≤ 24) (hf : f ≤ 4) (h : x < 0 ∨ (A : Int) ≤ x) :
    Calls Try.prog 31 #[.agg #[.int .i64 (p : Int), .int .i64 (c : Int), .int .i64 n, .int .i64 b, .int .i64 r, .int .i64 (f : Int), .int .i64 (g : Int)], .int .i64 x, .int .i64 y, .int .i64 z] w fun e w' => e = .returned (.int .i64 (-1)) ∧ Below w.heap.size w w' := by
  have HAL := Lib.hid (fun W => all_is p c A n b r f g W hA hA4)
  have HSL := Lib.hid (fun W => slots_is p c n b r f g W (by omega))
  clear hA
  have HX := Lib.hid h
  clear h
  have bx0 := Blk7.new w p c n b r f g 60
  go_enter Try.func31, Try.ntmps31
  go_wp2_with fail
  refine (HAL.out _).mono ?_
  rintro e w1 ⟨rfl, hb1⟩
  have bx1 := Blk7.below bx0 hb1
  have hB1 : Below w.heap.size w w1 := Below.step (by go_grown) hb1
  clear hb1 bx0
  obtain ⟨⟨c0, c1, c2, c3, c4, c5, c6⟩, hl⟩ := id bx1
  go_wp2_with fail
  refine (within_no _ _ _ HX.out).mono ?_
  rintro e w' ⟨rfl, rfl⟩
  go_wp2
  go_ret
  exact ⟨rfl, by first | exact hB2 | exact hB1⟩
set_option maxRecDepth 100000 in
set_option maxHeartbeats 4000000 in
theorem slot_out_low (p c A f g : Nat) (n b r x y z : Int) (w : World) (hA : A = p * c) (hA4 : A ≤ 24) (hf : f ≤ 4) (h0 : 0 ≤ x) (h1 : x < A) (h : y < 1) :
    Calls Try.prog 31 #[.agg #[.int .i64 (p : Int), .int .i64 (c : Int), .int .i64 n, .int .i64 b, .int .i64 r, .int .i64 (f : Int), .int .i64 (g : Int)], .int .i64 x, .int .i64 y, .int .i64 z] w fun e w' => e = .returned (.int .i64 (-1)) ∧ Below w.heap.size w w' := by
  have HAL := Lib.hid (fun W => all_is p c A n b r f g W hA hA4)
  have HSL := Lib.hid (fun W => slots_is p c n b r f g W (by omega))
  clear hA
  have bx0 := Blk7.new w p c n b r f g 60
  go_enter Try.func31, Try.ntmps31
  go_wp2_with fail
  refine (HAL.out _).mono ?_
  rintro e w1 ⟨rfl, hb1⟩
  have bx1 := Blk7.below bx0 hb1
  have hB1 : Below w.heap.size w w1 := Below.step (by go_grown) hb1
  clear hb1 bx0
  obtain ⟨⟨c0, c1, c2, c3, c4, c5, c6⟩, hl⟩ := id bx1
  go_wp2_with fail
  refine (within_yes _ _ _ (by omega) (by omega)).mono ?_
  rintro e w' ⟨rfl, rfl⟩
  go_wp2
  go_ret
  exact ⟨rfl, by first | exact hB2 | exact hB1⟩
set_option maxRecDepth 100000 in
set_option maxHeartbeats 4000000 in
theorem slot_out_high (p c A f g : Nat) (n b r x y z : Int) (w : World) (hA : A = p * c) (hA4 : A ≤ 24) (hf : f ≤ 4) (h0 : 0 ≤ x) (h1 : x < A) (h2 : 1 ≤ y) (h : (g : Int) < y) :
    Calls Try.prog 31 #[.agg #[.int .i64 (p : Int), .int .i64 (c : Int), .int .i64 n, .int .i64 b, .int .i64 r, .int .i64 (f : Int), .int .i64 (g : Int)], .int .i64 x, .int .i64 y, .int .i64 z] w fun e w' => e = .returned (.int .i64 (-1)) ∧ Below w.heap.size w w' := by
  have HAL := Lib.hid (fun W => all_is p c A n b r f g W hA hA4)
  have HSL := Lib.hid (fun W => slots_is p c n b r f g W (by omega))
  clear hA
  have bx0 := Blk7.new w p c n b r f g 60
  go_enter Try.func31, Try.ntmps31
  go_wp2_with fail
  refine (HAL.out _).mono ?_
  rintro e w1 ⟨rfl, hb1⟩
  have bx1 := Blk7.below bx0 hb1
  have hB1 : Below w.heap.size w w1 := Below.step (by go_grown) hb1
  clear hb1 bx0
  obtain ⟨⟨c0, c1, c2, c3, c4, c5, c6⟩, hl⟩ := id bx1
  go_wp2_with fail
  refine (within_yes _ _ _ (by omega) (by omega)).mono ?_
  rintro e w' ⟨rfl, rfl⟩
  go_wp2
  go_ret
  exact ⟨rfl, by first | exact hB2 | exact hB1⟩
set_option maxRecDepth 100000 in
set_option maxHeartbeats 4000000 in
theorem slot_out_z (p c A f g : Nat) (n b r x y z : Int) (w : World) (hA : A = p * c) (hA4 : A ≤ 24) (hf : f ≤ 4) (h0 : 0 ≤ x) (h1 : x < A) (h2 : 1 ≤ y) (h3 : y ≤ (g : Int)) (h : z < 0 ∨ (f : Int) + 1 ≤ z) :
    Calls Try.prog 31 #[.agg #[.int .i64 (p : Int), .int .i64 (c : Int), .int .i64 n, .int .i64 b, .int .i64 r, .int .i64 (f : Int), .int .i64 (g : Int)], .int .i64 x, .int .i64 y, .int .i64 z] w fun e w' => e = .returned (.int .i64 (-1)) ∧ Below w.heap.size w w' := by
  have HAL := Lib.hid (fun W => all_is p c A n b r f g W hA hA4)
  have HSL := Lib.hid (fun W => slots_is p c n b r f g W (by omega))
  clear hA
  have HX := Lib.hid h
  clear h
  have bx0 := Blk7.new w p c n b r f g 60
  go_enter Try.func31, Try.ntmps31
  go_wp2_with fail
  refine (HAL.out _).mono ?_
  rintro e w1 ⟨rfl, hb1⟩
  have bx1 := Blk7.below bx0 hb1
  have hB1 : Below w.heap.size w w1 := Below.step (by go_grown) hb1
  clear hb1 bx0
  obtain ⟨⟨c0, c1, c2, c3, c4, c5, c6⟩, hl⟩ := id bx1
  go_wp2_with fail
  refine (within_yes _ _ _ (by omega) (by omega)).mono ?_
  rintro e w' ⟨rfl, rfl⟩
  go_wp2_with fail
  refine (HSL.out _).mono ?_
  rintro e w2 ⟨rfl, hb2⟩
  have bx2 := Blk7.below bx1 hb2
  have hB2 : Below w.heap.size w w2 := Below.step hB1 hb2
  clear hb2 bx1 c0 c1 c2 c3 c4 c5 c6
  go_wp2_with fail
  refine (within_no _ _ _ HX.out).mono ?_
  rintro e w' ⟨rfl, rfl⟩
  go_wp2
  go_ret
  exact ⟨rfl, by first | exact hB2 | exact hB1⟩
theorem slot_out (p c A f g : Nat) (n b r x y z : Int) (w : World) (hA : A = p * c) (hA4 : A ≤ 24) (hf : f ≤ 4) (h : ¬ ((0 ≤ x ∧ x < A) ∧ (1 ≤ y ∧ y ≤ g) ∧ (0 ≤ z ∧ z < (f : Int) + 1))) :
    Calls Try.prog 31 #[.agg #[.int .i64 (p : Int), .int .i64 (c : Int), .int .i64 n, .int .i64 b, .int .i64 r, .int .i64 (f : Int), .int .i64 (g : Int)], .int .i64 x, .int .i64 y, .int .i64 z] w fun e w' => e = .returned (.int .i64 (-1)) ∧ Below w.heap.size w w' := by
  by_cases h0 : x < 0 ∨ (A : Int) ≤ x
  · exact slot_out_x p c A f g n b r x y z w hA hA4 hf h0
  by_cases h1 : y < 1
  · exact slot_out_low p c A f g n b r x y z w hA hA4 hf (by omega) (by omega) h1
  by_cases h2 : (g : Int) < y
  · exact slot_out_high p c A f g n b r x y z w hA hA4 hf (by omega) (by omega) (by omega) h2
  · exact slot_out_z p c A f g n b r x y z w hA hA4 hf (by omega) (by omega) (by omega) (by omega) (by omega)
/-- The first one, or none. -/
def firstIs (m T : Nat) : Int := if m < T then (m : Int) else -1
theorem first_yes (m T : Nat) (h : m < T) : firstIs m T = m := if_pos h
theorem first_no (m T : Nat) (h : ¬ m < T) : firstIs m T = -1 := if_neg h
/-- A row of places that reads. -/
def PReads (A G S T : Nat) (B : Nat) (w : World) : Prop := B < w.heap.size ∧ ∀ i, i < T → w.cell? ⟨B, i * 4, none⟩ = some (.int .i64 (pk A i)) ∧ w.cell? ⟨B, i * 4 + 1, none⟩ = some (.int .i64 (pc A G S i)) ∧ w.cell? ⟨B, i * 4 + 2, none⟩ = some (.int .i64 (pg A G S i)) ∧ w.cell? ⟨B, i * 4 + 3, none⟩ = some (.int .i64 (pn A S i))
theorem PReads.below {A G S T B : Nat} {w w' : World} (h : PReads A G S T B w) (hb : Below w.heap.size w w') : PReads A G S T B w' :=
  ⟨Nat.lt_of_lt_of_le h.1 hb.size, fun i hi => by
    obtain ⟨h0, h1, h2, h3⟩ := h.2 i hi
    exact ⟨(hb.cell (p := ⟨B, i * 4, none⟩) h.1).trans h0, (hb.cell (p := ⟨B, i * 4 + 1, none⟩) h.1).trans h1, (hb.cell (p := ⟨B, i * 4 + 2, none⟩) h.1).trans h2, (hb.cell (p := ⟨B, i * 4 + 3, none⟩) h.1).trans h3⟩⟩
theorem blk_lt7 {w : World} {g : Nat} {o : Obj} (h : w.heap[g]? = some o) : g < w.heap.size := by
  rcases Nat.lt_or_ge g w.heap.size with hlt | hge
  · exact hlt
  · rw [Array.getElem?_eq_none hge] at h; cases h
theorem preads_of {A G S T base : Nat} {v : Value} {w : World} (h : w.ownsRow base 67 4 v T (pls A G S T)) (hT : 0 < T) : ∃ B cap, v = .slice (some ⟨B, 0, none⟩) T cap ∧ PReads A G S T B w := by
  rcases h.2 with ⟨rfl, h0⟩ | ⟨B, cap, cur, rfl, hg, hh, hnc, hcm, hsz, htk⟩
  · omega
  · refine ⟨B, cap, rfl, blk_lt7 hh, fun i hi => ?_⟩
    obtain ⟨h0, h1, h2, h3⟩ := pls_at A G S T i hi
    rw [← htk] at h0 h1 h2 h3
    rw [List.getElem?_take, if_pos (by omega)] at h0 h1 h2 h3
    rw [Array.getElem?_toList] at h0 h1 h2 h3
    rw [cell_of_row _ _ _ _ _ _ hh, cell_of_row _ _ _ _ _ _ hh, cell_of_row _ _ _ _ _ _ hh, cell_of_row _ _ _ _ _ _ hh]
    exact ⟨h0, h1, h2, h3⟩
set_option maxRecDepth 100000 in
set_option maxHeartbeats 4000000 in
theorem at_is (A G S T B cap m : Nat) (x y z : Int) (w : World) (hR : PReads A G S T B w) (hT : T ≤ 2000) (hm : m ≤ T) (hno : ∀ i, i < m → ¬ (pk A i = 3 ∧ (pc A G S i : Int) = x ∧ (pg A G S i : Int) = y ∧ (pn A S i : Int) = z)) (hyes : m < T → pk A m = 3 ∧ (pc A G S m : Int) = x ∧ (pg A G S m : Int) = y ∧ (pn A S m : Int) = z) :
    Calls Try.prog 32 #[.slice (some ⟨B, 0, none⟩) T cap, .agg #[.int .i64 3, .int .i64 x, .int .i64 y, .int .i64 z]] w fun e w' => e = .returned (.int .i64 (firstIs m T)) ∧ Below w.heap.size w w' := by
  have HR := Lib.hid hR
  have HN := Lib.hid hno
  have HY := Lib.hid hyes
  have hBl := hR.1
  clear hR hno hyes
  go_enter Try.func32, Try.ntmps32
  have hx : ∀ o v, (w.alloc (.cells #[.int .i64 3, .int .i64 x, .int .i64 y, .int .i64 z] 67)).cell? ⟨w.heap.size, o, none⟩ = v → True := fun _ _ _ => trivial
  clear hx
  go_wp2_with fail
  go_loopw [5] (fun i wr => ∃ k : Nat, k ≤ m ∧ i = .int .i64 k ∧ Below w.heap.size w wr ∧ w.heap.size < wr.heap.size ∧ wr.cell? ⟨w.heap.size, 0, none⟩ = some (.int .i64 3) ∧ wr.cell? ⟨w.heap.size, 1, none⟩ = some (.int .i64 x) ∧ wr.cell? ⟨w.heap.size, 2, none⟩ = some (.int .i64 y) ∧ wr.cell? ⟨w.heap.size, 3, none⟩ = some (.int .i64 z)) (fun i _ => T + 1 - (intOf i).toNat)
  case atStart => exact ⟨0, Nat.zero_le _, rfl, by go_grown, by simp, by simp [go_sem], by simp [go_sem], by simp [go_sem], by simp [go_sem]⟩
  case round =>
    obtain ⟨k, hk, rfl, hB, hl, c0, c1, c2, c3⟩ := hrel
    by_cases hkT : k < T
    · obtain ⟨r0, r1, r2, r3⟩ := HR.out.2 k hkT
      have d0 := (hB.cell (p := ⟨B, k * 4, none⟩) hBl).trans r0
      have d1 := (hB.cell (p := ⟨B, k * 4 + 1, none⟩) hBl).trans r1
      have d2 := (hB.cell (p := ⟨B, k * 4 + 2, none⟩) hBl).trans r2
      have d3 := (hB.cell (p := ⟨B, k * 4 + 3, none⟩) hBl).trans r3
      clear r0 r1 r2 r3
      have k0 : (0 : Int) ≤ (k : Int) := by omega
      have k1 : (k : Int) < (T : Int) := by omega
      have HD := Lib.hid (And.intro d0 (And.intro d1 (And.intro d2 d3)))
      have HCX := Lib.hid (And.intro c0 (And.intro c1 (And.intro c2 c3)))
      have hdB : B < wr.heap.size := Nat.lt_of_lt_of_le hBl hB.size
      have HNK := Lib.hid (HN.out k)
      clear d0 d1 d2 d3 c0 c1 c2 c3
      go_wp2_with fail
      by_cases mm : pk A k = 3 ∧ (pc A G S k : Int) = x ∧ (pg A G S k : Int) = y ∧ (pn A S k : Int) = z
      · have hkm : k = m := by
          rcases Nat.lt_or_ge k m with h | h
          · exact absurd mm (HNK.out h)
          · omega
        have HKM := Lib.hid hkm
        clear hkm
        obtain ⟨m0, m1, m2, m3⟩ := mm
        have e0 : (((pk A k : Nat) : Int) == 3) = true := by rw [m0]; rfl
        have e1 : (((pc A G S k : Nat) : Int) == x) = true := by rw [m1]; simp
        have e2 : (((pg A G S k : Nat) : Int) == y) = true := by rw [m2]; simp
        have e3 : (((pn A S k : Nat) : Int) == z) = true := by rw [m3]; simp
        clear m0 m1 m2 m3
        generalize ((pk A k : Nat) : Int) = a0 at *
        generalize ((pc A G S k : Nat) : Int) = a1 at *
        generalize ((pg A G S k : Nat) : Int) = a2 at *
        generalize ((pn A S k : Nat) : Int) = a3 at *
        refine region_sc (by kernel_rfl) (by kernel_rfl) ?_
        iterate 3 (first | go_big_quiet_skip | (go_big_quiet_want; go_big_quiet_op; first | go_big_quiet_on | (refine ⟨_, fun _ _ => rfl, ?_⟩; go_big_quiet_on)))
        go_big_quiet_want
        refine ⟨.agg #[.int .i64 a0, .int .i64 a1, .int .i64 a2, .int .i64 a3], fun wq hq => ?_, ?_⟩
        · have q0 := (Below.cell hq (p := ⟨B, k * 4, none⟩) hdB).trans HD.out.1
          have q1 := (Below.cell hq (p := ⟨B, k * 4 + 1, none⟩) hdB).trans HD.out.2.1
          have q2 := (Below.cell hq (p := ⟨B, k * 4 + 2, none⟩) hdB).trans HD.out.2.2.1
          have q3 := (Below.cell hq (p := ⟨B, k * 4 + 3, none⟩) hdB).trans HD.out.2.2.2
          unfold Oper.quietAt
          simp [go_sem, q0, q1, q2, q3, Oper.quietUpon]
        simp only [Act.put, List.setIfInBounds_toArray, List.set_cons_zero, List.set_cons_succ]
        go_big_quiet_on
        go_big_quiet_want
        refine ⟨.agg #[.int .i64 3, .int .i64 x, .int .i64 y, .int .i64 z], fun wq hq => ?_, ?_⟩
        · have q0 := (Below.cell hq (p := ⟨w.heap.size, 0, none⟩) hl).trans HCX.out.1
          have q1 := (Below.cell hq (p := ⟨w.heap.size, 1, none⟩) hl).trans HCX.out.2.1
          have q2 := (Below.cell hq (p := ⟨w.heap.size, 2, none⟩) hl).trans HCX.out.2.2.1
          have q3 := (Below.cell hq (p := ⟨w.heap.size, 3, none⟩) hl).trans HCX.out.2.2.2
          unfold Oper.quietAt
          simp [go_sem, q0, q1, q2, q3, Oper.quietUpon]
        simp only [Act.put, List.setIfInBounds_toArray, List.set_cons_zero, List.set_cons_succ]
        go_big_quiet_on
        iterate 1 (first | go_big_quiet_skip | (go_big_quiet_want; go_big_quiet_op; first | go_big_quiet_on | (refine ⟨_, fun _ _ => rfl, ?_⟩; go_big_quiet_on)))
        refine wpQuiet_nil ?_
        intro w9 hv
        have hB9 : Below w.heap.size w w9 := Below.step hB hv
        have z0 := (Below.cell hv (p := ⟨w.heap.size, 0, none⟩) hl).trans HCX.out.1
        have z1 := (Below.cell hv (p := ⟨w.heap.size, 1, none⟩) hl).trans HCX.out.2.1
        have z2 := (Below.cell hv (p := ⟨w.heap.size, 2, none⟩) hl).trans HCX.out.2.2.1
        have z3 := (Below.cell hv (p := ⟨w.heap.size, 3, none⟩) hl).trans HCX.out.2.2.2
        have hl9 : w.heap.size < w9.heap.size := Nat.lt_of_lt_of_le hl (Below.size hv)
        clear hv
        go_wp2
        go_ret
        exact ⟨by have e := HKM.out; subst e; rw [first_yes _ _ hkT]; rfl, hB9⟩
      · have hkm : k < m := by
          rcases Nat.lt_or_ge k m with h | h
          · exact h
          · obtain rfl : k = m := by omega
            exact absurd (HY.out hkT) mm
        by_cases m0 : pk A k = 3
        · have e0 : (((pk A k : Nat) : Int) == 3) = true := by rw [m0]; rfl
          by_cases m1 : (pc A G S k : Int) = x
          · have e1 : (((pc A G S k : Nat) : Int) == x) = true := by rw [m1]; simp
            by_cases m2 : (pg A G S k : Int) = y
            · have e2 : (((pg A G S k : Nat) : Int) == y) = true := by rw [m2]; simp
              have e3 : (((pn A S k : Nat) : Int) == z) = false := by rw [beq_eq_false_iff_ne]; exact fun h => mm ⟨m0, m1, m2, h⟩
              clear m0 m1 m2 mm HNK
              generalize ((pk A k : Nat) : Int) = a0 at *
              generalize ((pc A G S k : Nat) : Int) = a1 at *
              generalize ((pg A G S k : Nat) : Int) = a2 at *
              generalize ((pn A S k : Nat) : Int) = a3 at *
              refine region_sc (by kernel_rfl) (by kernel_rfl) ?_
              iterate 3 (first | go_big_quiet_skip | (go_big_quiet_want; go_big_quiet_op; first | go_big_quiet_on | (refine ⟨_, fun _ _ => rfl, ?_⟩; go_big_quiet_on)))
              go_big_quiet_want
              refine ⟨.agg #[.int .i64 a0, .int .i64 a1, .int .i64 a2, .int .i64 a3], fun wq hq => ?_, ?_⟩
              · have q0 := (Below.cell hq (p := ⟨B, k * 4, none⟩) hdB).trans HD.out.1
                have q1 := (Below.cell hq (p := ⟨B, k * 4 + 1, none⟩) hdB).trans HD.out.2.1
                have q2 := (Below.cell hq (p := ⟨B, k * 4 + 2, none⟩) hdB).trans HD.out.2.2.1
                have q3 := (Below.cell hq (p := ⟨B, k * 4 + 3, none⟩) hdB).trans HD.out.2.2.2
                unfold Oper.quietAt
                simp [go_sem, q0, q1, q2, q3, Oper.quietUpon]
              simp only [Act.put, List.setIfInBounds_toArray, List.set_cons_zero, List.set_cons_succ]
              go_big_quiet_on
              go_big_quiet_want
              refine ⟨.agg #[.int .i64 3, .int .i64 x, .int .i64 y, .int .i64 z], fun wq hq => ?_, ?_⟩
              · have q0 := (Below.cell hq (p := ⟨w.heap.size, 0, none⟩) hl).trans HCX.out.1
                have q1 := (Below.cell hq (p := ⟨w.heap.size, 1, none⟩) hl).trans HCX.out.2.1
                have q2 := (Below.cell hq (p := ⟨w.heap.size, 2, none⟩) hl).trans HCX.out.2.2.1
                have q3 := (Below.cell hq (p := ⟨w.heap.size, 3, none⟩) hl).trans HCX.out.2.2.2
                unfold Oper.quietAt
                simp [go_sem, q0, q1, q2, q3, Oper.quietUpon]
              simp only [Act.put, List.setIfInBounds_toArray, List.set_cons_zero, List.set_cons_succ]
              go_big_quiet_on
              iterate 1 (first | go_big_quiet_skip | (go_big_quiet_want; go_big_quiet_op; first | go_big_quiet_on | (refine ⟨_, fun _ _ => rfl, ?_⟩; go_big_quiet_on)))
              refine wpQuiet_nil ?_
              intro w9 hv
              have hB9 : Below w.heap.size w w9 := Below.step hB hv
              have z0 := (Below.cell hv (p := ⟨w.heap.size, 0, none⟩) hl).trans HCX.out.1
              have z1 := (Below.cell hv (p := ⟨w.heap.size, 1, none⟩) hl).trans HCX.out.2.1
              have z2 := (Below.cell hv (p := ⟨w.heap.size, 2, none⟩) hl).trans HCX.out.2.2.1
              have z3 := (Below.cell hv (p := ⟨w.heap.size, 3, none⟩) hl).trans HCX.out.2.2.2
              have hl9 : w.heap.size < w9.heap.size := Nat.lt_of_lt_of_le hl (Below.size hv)
              clear hv
              have Z := Lib.hid (And.intro z0 (And.intro z1 (And.intro z2 z3)))
              clear z0 z1 z2 z3
              go_wp2_with fail
              go_roundw
              case rel => exact ⟨k + 1, by omega, by go_num, hB9, hl9, Z.out.1, Z.out.2.1, Z.out.2.2.1, Z.out.2.2.2⟩
              case measure => simp [intOf]; omega
            · have e2 : (((pg A G S k : Nat) : Int) == y) = false := by rw [beq_eq_false_iff_ne]; exact m2
              clear m0 m1 m2 mm HNK
              generalize ((pk A k : Nat) : Int) = a0 at *
              generalize ((pc A G S k : Nat) : Int) = a1 at *
              generalize ((pg A G S k : Nat) : Int) = a2 at *
              generalize ((pn A S k : Nat) : Int) = a3 at *
              refine region_sc (by kernel_rfl) (by kernel_rfl) ?_
              iterate 3 (first | go_big_quiet_skip | (go_big_quiet_want; go_big_quiet_op; first | go_big_quiet_on | (refine ⟨_, fun _ _ => rfl, ?_⟩; go_big_quiet_on)))
              go_big_quiet_want
              refine ⟨.agg #[.int .i64 a0, .int .i64 a1, .int .i64 a2, .int .i64 a3], fun wq hq => ?_, ?_⟩
              · have q0 := (Below.cell hq (p := ⟨B, k * 4, none⟩) hdB).trans HD.out.1
                have q1 := (Below.cell hq (p := ⟨B, k * 4 + 1, none⟩) hdB).trans HD.out.2.1
                have q2 := (Below.cell hq (p := ⟨B, k * 4 + 2, none⟩) hdB).trans HD.out.2.2.1
                have q3 := (Below.cell hq (p := ⟨B, k * 4 + 3, none⟩) hdB).trans HD.out.2.2.2
                unfold Oper.quietAt
                simp [go_sem, q0, q1, q2, q3, Oper.quietUpon]
              simp only [Act.put, List.setIfInBounds_toArray, List.set_cons_zero, List.set_cons_succ]
              go_big_quiet_on
              go_big_quiet_want
              refine ⟨.agg #[.int .i64 3, .int .i64 x, .int .i64 y, .int .i64 z], fun wq hq => ?_, ?_⟩
              · have q0 := (Below.cell hq (p := ⟨w.heap.size, 0, none⟩) hl).trans HCX.out.1
                have q1 := (Below.cell hq (p := ⟨w.heap.size, 1, none⟩) hl).trans HCX.out.2.1
                have q2 := (Below.cell hq (p := ⟨w.heap.size, 2, none⟩) hl).trans HCX.out.2.2.1
                have q3 := (Below.cell hq (p := ⟨w.heap.size, 3, none⟩) hl).trans HCX.out.2.2.2
                unfold Oper.quietAt
                simp [go_sem, q0, q1, q2, q3, Oper.quietUpon]
              simp only [Act.put, List.setIfInBounds_toArray, List.set_cons_zero, List.set_cons_succ]
              go_big_quiet_on
              iterate 1 (first | go_big_quiet_skip | (go_big_quiet_want; go_big_quiet_op; first | go_big_quiet_on | (refine ⟨_, fun _ _ => rfl, ?_⟩; go_big_quiet_on)))
              refine wpQuiet_nil ?_
              intro w9 hv
              have hB9 : Below w.heap.size w w9 := Below.step hB hv
              have z0 := (Below.cell hv (p := ⟨w.heap.size, 0, none⟩) hl).trans HCX.out.1
              have z1 := (Below.cell hv (p := ⟨w.heap.size, 1, none⟩) hl).trans HCX.out.2.1
              have z2 := (Below.cell hv (p := ⟨w.heap.size, 2, none⟩) hl).trans HCX.out.2.2.1
              have z3 := (Below.cell hv (p := ⟨w.heap.size, 3, none⟩) hl).trans HCX.out.2.2.2
              have hl9 : w.heap.size < w9.heap.size := Nat.lt_of_lt_of_le hl (Below.size hv)
              clear hv
              have Z := Lib.hid (And.intro z0 (And.intro z1 (And.intro z2 z3)))
              clear z0 z1 z2 z3
              go_wp2_with fail
              go_roundw
              case rel => exact ⟨k + 1, by omega, by go_num, hB9, hl9, Z.out.1, Z.out.2.1, Z.out.2.2.1, Z.out.2.2.2⟩
              case measure => simp [intOf]; omega
          · have e1 : (((pc A G S k : Nat) : Int) == x) = false := by rw [beq_eq_false_iff_ne]; exact m1
            clear m0 m1 mm HNK
            generalize ((pk A k : Nat) : Int) = a0 at *
            generalize ((pc A G S k : Nat) : Int) = a1 at *
            generalize ((pg A G S k : Nat) : Int) = a2 at *
            generalize ((pn A S k : Nat) : Int) = a3 at *
            refine region_sc (by kernel_rfl) (by kernel_rfl) ?_
            iterate 3 (first | go_big_quiet_skip | (go_big_quiet_want; go_big_quiet_op; first | go_big_quiet_on | (refine ⟨_, fun _ _ => rfl, ?_⟩; go_big_quiet_on)))
            go_big_quiet_want
            refine ⟨.agg #[.int .i64 a0, .int .i64 a1, .int .i64 a2, .int .i64 a3], fun wq hq => ?_, ?_⟩
            · have q0 := (Below.cell hq (p := ⟨B, k * 4, none⟩) hdB).trans HD.out.1
              have q1 := (Below.cell hq (p := ⟨B, k * 4 + 1, none⟩) hdB).trans HD.out.2.1
              have q2 := (Below.cell hq (p := ⟨B, k * 4 + 2, none⟩) hdB).trans HD.out.2.2.1
              have q3 := (Below.cell hq (p := ⟨B, k * 4 + 3, none⟩) hdB).trans HD.out.2.2.2
              unfold Oper.quietAt
              simp [go_sem, q0, q1, q2, q3, Oper.quietUpon]
            simp only [Act.put, List.setIfInBounds_toArray, List.set_cons_zero, List.set_cons_succ]
            go_big_quiet_on
            go_big_quiet_want
            refine ⟨.agg #[.int .i64 3, .int .i64 x, .int .i64 y, .int .i64 z], fun wq hq => ?_, ?_⟩
            · have q0 := (Below.cell hq (p := ⟨w.heap.size, 0, none⟩) hl).trans HCX.out.1
              have q1 := (Below.cell hq (p := ⟨w.heap.size, 1, none⟩) hl).trans HCX.out.2.1
              have q2 := (Below.cell hq (p := ⟨w.heap.size, 2, none⟩) hl).trans HCX.out.2.2.1
              have q3 := (Below.cell hq (p := ⟨w.heap.size, 3, none⟩) hl).trans HCX.out.2.2.2
              unfold Oper.quietAt
              simp [go_sem, q0, q1, q2, q3, Oper.quietUpon]
            simp only [Act.put, List.setIfInBounds_toArray, List.set_cons_zero, List.set_cons_succ]
            go_big_quiet_on
            iterate 1 (first | go_big_quiet_skip | (go_big_quiet_want; go_big_quiet_op; first | go_big_quiet_on | (refine ⟨_, fun _ _ => rfl, ?_⟩; go_big_quiet_on)))
            refine wpQuiet_nil ?_
            intro w9 hv
            have hB9 : Below w.heap.size w w9 := Below.step hB hv
            have z0 := (Below.cell hv (p := ⟨w.heap.size, 0, none⟩) hl).trans HCX.out.1
            have z1 := (Below.cell hv (p := ⟨w.heap.size, 1, none⟩) hl).trans HCX.out.2.1
            have z2 := (Below.cell hv (p := ⟨w.heap.size, 2, none⟩) hl).trans HCX.out.2.2.1
            have z3 := (Below.cell hv (p := ⟨w.heap.size, 3, none⟩) hl).trans HCX.out.2.2.2
            have hl9 : w.heap.size < w9.heap.size := Nat.lt_of_lt_of_le hl (Below.size hv)
            clear hv
            have Z := Lib.hid (And.intro z0 (And.intro z1 (And.intro z2 z3)))
            clear z0 z1 z2 z3
            go_wp2_with fail
            go_roundw
            case rel => exact ⟨k + 1, by omega, by go_num, hB9, hl9, Z.out.1, Z.out.2.1, Z.out.2.2.1, Z.out.2.2.2⟩
            case measure => simp [intOf]; omega
        · have e0 : (((pk A k : Nat) : Int) == 3) = false := by rw [beq_eq_false_iff_ne]; omega
          clear m0 mm HNK
          generalize ((pk A k : Nat) : Int) = a0 at *
          generalize ((pc A G S k : Nat) : Int) = a1 at *
          generalize ((pg A G S k : Nat) : Int) = a2 at *
          generalize ((pn A S k : Nat) : Int) = a3 at *
          refine region_sc (by kernel_rfl) (by kernel_rfl) ?_
          iterate 3 (first | go_big_quiet_skip | (go_big_quiet_want; go_big_quiet_op; first | go_big_quiet_on | (refine ⟨_, fun _ _ => rfl, ?_⟩; go_big_quiet_on)))
          go_big_quiet_want
          refine ⟨.agg #[.int .i64 a0, .int .i64 a1, .int .i64 a2, .int .i64 a3], fun wq hq => ?_, ?_⟩
          · have q0 := (Below.cell hq (p := ⟨B, k * 4, none⟩) hdB).trans HD.out.1
            have q1 := (Below.cell hq (p := ⟨B, k * 4 + 1, none⟩) hdB).trans HD.out.2.1
            have q2 := (Below.cell hq (p := ⟨B, k * 4 + 2, none⟩) hdB).trans HD.out.2.2.1
            have q3 := (Below.cell hq (p := ⟨B, k * 4 + 3, none⟩) hdB).trans HD.out.2.2.2
            unfold Oper.quietAt
            simp [go_sem, q0, q1, q2, q3, Oper.quietUpon]
          simp only [Act.put, List.setIfInBounds_toArray, List.set_cons_zero, List.set_cons_succ]
          go_big_quiet_on
          go_big_quiet_want
          refine ⟨.agg #[.int .i64 3, .int .i64 x, .int .i64 y, .int .i64 z], fun wq hq => ?_, ?_⟩
          · have q0 := (Below.cell hq (p := ⟨w.heap.size, 0, none⟩) hl).trans HCX.out.1
            have q1 := (Below.cell hq (p := ⟨w.heap.size, 1, none⟩) hl).trans HCX.out.2.1
            have q2 := (Below.cell hq (p := ⟨w.heap.size, 2, none⟩) hl).trans HCX.out.2.2.1
            have q3 := (Below.cell hq (p := ⟨w.heap.size, 3, none⟩) hl).trans HCX.out.2.2.2
            unfold Oper.quietAt
            simp [go_sem, q0, q1, q2, q3, Oper.quietUpon]
          simp only [Act.put, List.setIfInBounds_toArray, List.set_cons_zero, List.set_cons_succ]
          go_big_quiet_on
          iterate 1 (first | go_big_quiet_skip | (go_big_quiet_want; go_big_quiet_op; first | go_big_quiet_on | (refine ⟨_, fun _ _ => rfl, ?_⟩; go_big_quiet_on)))
          refine wpQuiet_nil ?_
          intro w9 hv
          have hB9 : Below w.heap.size w w9 := Below.step hB hv
          have z0 := (Below.cell hv (p := ⟨w.heap.size, 0, none⟩) hl).trans HCX.out.1
          have z1 := (Below.cell hv (p := ⟨w.heap.size, 1, none⟩) hl).trans HCX.out.2.1
          have z2 := (Below.cell hv (p := ⟨w.heap.size, 2, none⟩) hl).trans HCX.out.2.2.1
          have z3 := (Below.cell hv (p := ⟨w.heap.size, 3, none⟩) hl).trans HCX.out.2.2.2
          have hl9 : w.heap.size < w9.heap.size := Nat.lt_of_lt_of_le hl (Below.size hv)
          clear hv
          have Z := Lib.hid (And.intro z0 (And.intro z1 (And.intro z2 z3)))
          clear z0 z1 z2 z3
          go_wp2_with fail
          go_roundw
          case rel => exact ⟨k + 1, by omega, by go_num, hB9, hl9, Z.out.1, Z.out.2.1, Z.out.2.2.1, Z.out.2.2.2⟩
          case measure => simp [intOf]; omega
    · obtain rfl : k = m := by omega
      have hkT2 : decide ((k : Int) < (T : Int)) = false := decide_eq_false (by omega)
      go_wp2_with fail
      go_ret
      exact ⟨by rw [first_no _ _ (by omega)]; rfl, hB⟩
end Go.Proofs.Ytdjdpbgemdmpiaa

/-
  The walk of RulesShards.
-/
import Derived.Test.YtbooncoealpfdaaRows
import Derived.WalkKit
import Derived.ProofKit
import Derived.OpenShut
import Derived.ShutString
import Derived.Below
import Derived.Outline
import Derived.WalkLawsBesides
import Derived.WalkSpells
import Derived.Handy
import Derived.Deep.QuietTactic
import Derived.BigQuiet
import Derived.RegionTactic
import Derived.ChangeAlike
import Derived.Lib.Hide
import Derived.Deep.RegionHeld3
import Derived.Test.YtbooncoealpfdaaKit
import Derived.Test.YtbooncoealpfdaaRules
namespace Go.Proofs.Ytbooncoealpfdaa.rulesShards
open Go.ChangeShapes Go.WideShapes Go.ChangeAt Go.RowKit

/-- What the loads read: a block with the rules, and one with the configuration. -/
def Cz (w : World) (A B : Nat) (p c n b r f g : Int) (wx : World) : Prop := ((wx.cell? ⟨A, 0, none⟩ = some (.int .i64 p) ∧ wx.cell? ⟨A, 1, none⟩ = some (.int .i64 c) ∧ wx.cell? ⟨A, 2, none⟩ = some (.int .i64 n) ∧ wx.cell? ⟨A, 3, none⟩ = some (.int .i64 b) ∧ wx.cell? ⟨A, 4, none⟩ = some (.int .i64 r) ∧ wx.cell? ⟨A, 5, none⟩ = some (.int .i64 f) ∧ wx.cell? ⟨A, 6, none⟩ = some (.int .i64 g)) ∧ (wx.cell? ⟨B, 0, none⟩ = some (.int .i64 p) ∧ wx.cell? ⟨B, 1, none⟩ = some (.int .i64 c) ∧ wx.cell? ⟨B, 2, none⟩ = some (.int .i64 n) ∧ wx.cell? ⟨B, 3, none⟩ = some (.int .i64 b) ∧ wx.cell? ⟨B, 4, none⟩ = some (.int .i64 r) ∧ wx.cell? ⟨B, 5, none⟩ = some (.int .i64 f) ∧ wx.cell? ⟨B, 6, none⟩ = some (.int .i64 g))) ∧ A < wx.heap.size ∧ B < wx.heap.size ∧ Below w.heap.size w wx
section
variable {w wx wy : World} {A B : Nat} {p c n b r f g : Int}
theorem Cz.below (h : Cz w A B p c n b r f g wx) (hb : Below wx.heap.size wx wy) : Cz w A B p c n b r f g wy := by
  obtain ⟨⟨⟨c0, c1, c2, c3, c4, c5, c6⟩, ⟨d0, d1, d2, d3, d4, d5, d6⟩⟩, ha, hB, hw⟩ := h
  have ea : ∀ o, wy.cell? ⟨A, o, none⟩ = wx.cell? ⟨A, o, none⟩ := fun o => hb.cell (p := ⟨A, o, none⟩) ha
  have eb : ∀ o, wy.cell? ⟨B, o, none⟩ = wx.cell? ⟨B, o, none⟩ := fun o => hb.cell (p := ⟨B, o, none⟩) hB
  exact ⟨⟨⟨(ea 0).trans c0, (ea 1).trans c1, (ea 2).trans c2, (ea 3).trans c3, (ea 4).trans c4, (ea 5).trans c5, (ea 6).trans c6⟩, ⟨(eb 0).trans d0, (eb 1).trans d1, (eb 2).trans d2, (eb 3).trans d3, (eb 4).trans d4, (eb 5).trans d5, (eb 6).trans d6⟩⟩, Nat.lt_of_lt_of_le ha hb.size, Nat.lt_of_lt_of_le hB hb.size, Below.step hw hb⟩
theorem call_cz {fn : FuncId} {args : Array Value} {v : Value} (hT : ∀ W, Calls Try.prog fn args W fun e w' => e = .returned v ∧ Below W.heap.size W w') (h : Cz w A B p c n b r f g wx) : Calls Try.prog fn args wx fun e w' => e = .returned v ∧ Cz w A B p c n b r f g w' :=
  (hT wx).mono fun _ _ ⟨he, hb⟩ => ⟨he, h.below hb⟩
theorem region_cz {P : Program} {id : Nat} {Q : Exit → Act → World → Prop} {a : Act} {W : World} {l' : List Oper} (hm : P.follows .mixedOrders = true) (hB : Region.lexB .any l'.toArray = true) (hC : Cz w A B p c n b r f g W.drew)
    (h : wpQuiet P l'.toArray (Cz w A B p c n b r f g) (fun a' => ∀ w', Cz w A B p c n b r f g w' → Q .normal a' w') l' a) : (Code.region id l'.toArray true).wp P Q a W := wp_region_quiet (C := Cz w A B p c n b r f g) hm hB hC (by simpa using h)
end

set_option maxRecDepth 100000 in
set_option maxHeartbeats 4000000 in
theorem good (p c n b r f g nm a z u v X Y N : Int) (w : World)
    (hNew : ∀ W, Calls Try.prog 20 #[.agg #[.int .i64 p, .int .i64 c, .int .i64 n, .int .i64 b, .int .i64 r, .int .i64 f, .int .i64 g]] W (NewOk W p c n b r f g))
    (hA : ∀ W, Calls Try.prog 23 #[.agg #[.int .i64 p, .int .i64 c, .int .i64 n, .int .i64 b, .int .i64 r, .int .i64 f, .int .i64 g], .int .i64 a] W fun e w' => e = .returned (.int .i64 u) ∧ Below W.heap.size W w')
    (hZ : ∀ W, Calls Try.prog 23 #[.agg #[.int .i64 p, .int .i64 c, .int .i64 n, .int .i64 b, .int .i64 r, .int .i64 f, .int .i64 g], .int .i64 z] W fun e w' => e = .returned (.int .i64 v) ∧ Below W.heap.size W w')
    (h1 : ∀ W, Calls Try.prog 23 #[.agg #[.int .i64 p, .int .i64 c, .int .i64 n, .int .i64 b, .int .i64 r, .int .i64 f, .int .i64 g], .int .i64 1] W fun e w' => e = .returned (.int .i64 0) ∧ Below W.heap.size W w')
    (h9 : ∀ W, Calls Try.prog 23 #[.agg #[.int .i64 p, .int .i64 c, .int .i64 n, .int .i64 b, .int .i64 r, .int .i64 f, .int .i64 g], .int .i64 9999] W fun e w' => e = .returned (.int .i64 (b - 1)) ∧ Below W.heap.size W w')
    (hSA : ∀ W, Calls Try.prog 22 #[.agg #[.int .i64 p, .int .i64 c, .int .i64 n, .int .i64 b, .int .i64 r, .int .i64 f, .int .i64 g], .int .i64 nm, .int .i64 u] W fun e w' => e = .returned (.int .i64 X) ∧ Below W.heap.size W w')
    (hSZ : ∀ W, Calls Try.prog 22 #[.agg #[.int .i64 p, .int .i64 c, .int .i64 n, .int .i64 b, .int .i64 r, .int .i64 f, .int .i64 g], .int .i64 nm, .int .i64 v] W fun e w' => e = .returned (.int .i64 Y) ∧ Below W.heap.size W w')
    (hP : ∀ W, Calls Try.prog 24 #[.agg #[.int .i64 p, .int .i64 c, .int .i64 n, .int .i64 b, .int .i64 r, .int .i64 f, .int .i64 g], .int .i64 X] W fun e w' => e = .returned (.tuple #[.int .i64 nm, .int .i64 u]) ∧ Below W.heap.size W w')
    (hN : ∀ W, Calls Try.prog 25 #[.agg #[.int .i64 p, .int .i64 c, .int .i64 n, .int .i64 b, .int .i64 r, .int .i64 f, .int .i64 g]] W fun e w' => e = .returned (.int .i64 N) ∧ Below W.heap.size W w')
    (b1 : 1 ≤ b) (b4 : b ≤ 4) (a1 : 1 ≤ a) (az : a ≤ z) (z9 : z ≤ 9999) (m0 : 0 ≤ nm) (mn : nm < n) (x0 : 0 ≤ X) (xy : X ≤ Y) (yn : Y < N) :
    Calls Try.prog 6 #[.agg #[.int .i64 p, .int .i64 c, .int .i64 n, .int .i64 b, .int .i64 r, .int .i64 f, .int .i64 g], .int .i64 nm, .int .i64 a, .int .i64 z] w fun e w' => e = .returned (.bool true) ∧ Below w.heap.size w w' := by
  have HhA := Lib.hid hA
  have HhZ := Lib.hid hZ
  have Hh1 := Lib.hid h1
  have Hh9 := Lib.hid h9
  have HhSA := Lib.hid hSA
  have HhSZ := Lib.hid hSZ
  have HhP := Lib.hid hP
  have HhN := Lib.hid hN
  have HhNew := Lib.hid hNew
  clear hA hZ h1 h9 hSA hSZ hP hN hNew
  have t1 : (nm == nm) = true := by simp
  have t2 : (u == u) = true := by simp
  have t3 : (b - 1 == b - 1) = true := by simp
  have hA0 : ∀ o v, (w.alloc (Obj.cells #[.int .i64 p, .int .i64 c, .int .i64 n, .int .i64 b, .int .i64 r, .int .i64 f, .int .i64 g] 43)).cell? ⟨w.heap.size, o, none⟩ = some v → (w.alloc (Obj.cells #[.int .i64 p, .int .i64 c, .int .i64 n, .int .i64 b, .int .i64 r, .int .i64 f, .int .i64 g] 43)).cell? ⟨w.heap.size, o, none⟩ = some v := fun _ _ h => h
  clear hA0
  go_enter Try.func6, Try.ntmps6
  go_wp2_with fail
  refine (HhNew.out _).mono ?_
  rintro e w1 ⟨rfl, hb1⟩
  have hz1 := hb1.size
  simp only [World.size_alloc] at hz1
  have hlt : w.heap.size < w1.heap.size := by omega
  have hB1 : Below w.heap.size w w1 := Below.step (by go_grown) hb1
  have hK : Cz w w.heap.size w1.heap.size p c n b r f g (w1.alloc (Obj.cells #[.int .i64 p, .int .i64 c, .int .i64 n, .int .i64 b, .int .i64 r, .int .i64 f, .int .i64 g] 45)) := by
    have ec : ∀ o, (w1.alloc (Obj.cells #[.int .i64 p, .int .i64 c, .int .i64 n, .int .i64 b, .int .i64 r, .int .i64 f, .int .i64 g] 45)).cell? ⟨w.heap.size, o, none⟩ = (w.alloc (Obj.cells #[.int .i64 p, .int .i64 c, .int .i64 n, .int .i64 b, .int .i64 r, .int .i64 f, .int .i64 g] 43)).cell? ⟨w.heap.size, o, none⟩ := fun o =>
      (World.cell?_alloc_lt w1 _ ⟨w.heap.size, o, none⟩ hlt).trans (hb1.cell (p := ⟨w.heap.size, o, none⟩) (by simp))
    refine ⟨⟨⟨?_, ?_, ?_, ?_, ?_, ?_, ?_⟩, ⟨?_, ?_, ?_, ?_, ?_, ?_, ?_⟩⟩, by simp; omega, by simp, by go_grown⟩
    all_goals first | (rw [ec]; simp [go_sem]; done) | (simp [go_sem]; done)
  obtain ⟨hc1, hf1⟩ := bcell hb1
  simp only [World.size_alloc] at hc1 hf1
  go_wp2_with fail
  have hK2 : Cz w w.heap.size w1.heap.size p c n b r f g (w1.alloc (Obj.cells #[.int .i64 p, .int .i64 c, .int .i64 n, .int .i64 b, .int .i64 r, .int .i64 f, .int .i64 g] 45)).drew := hK.below (by go_grown)
  clear hK hb1 hc1 hf1 hB1 hz1
  refine region_cz (by kernel_rfl) (by kernel_rfl) hK2 ?_
  clear hK2
  go_big_quiet_want
  refine ⟨.agg #[.int .i64 p, .int .i64 c, .int .i64 n, .int .i64 b, .int .i64 r, .int .i64 f, .int .i64 g], fun wq hq => ?_, ?_⟩
  · obtain ⟨⟨_, ⟨q0, q1, q2, q3, q4, q5, q6⟩⟩, _, _, _⟩ := hq
    unfold Oper.quietAt
    simp [go_sem, q0, q1, q2, q3, q4, q5, q6, Oper.quietUpon]
  simp only [Act.put, List.setIfInBounds_toArray, List.set_cons_zero, List.set_cons_succ]
  go_big_quiet_on
  iterate 1 (first | go_big_quiet_skip | (go_big_quiet_want; go_big_quiet_op; first | go_big_quiet_on | (refine ⟨_, fun _ _ => rfl, ?_⟩; go_big_quiet_on)))
  go_big_quiet_want
  refine ⟨.agg #[.int .i64 p, .int .i64 c, .int .i64 n, .int .i64 b, .int .i64 r, .int .i64 f, .int .i64 g], fun wq hq => ?_, ?_⟩
  · obtain ⟨⟨_, ⟨q0, q1, q2, q3, q4, q5, q6⟩⟩, _, _, _⟩ := hq
    unfold Oper.quietAt
    simp [go_sem, q0, q1, q2, q3, q4, q5, q6, Oper.quietUpon]
  simp only [Act.put, List.setIfInBounds_toArray, List.set_cons_zero, List.set_cons_succ]
  go_big_quiet_on
  iterate 1 (first | go_big_quiet_skip | (go_big_quiet_want; go_big_quiet_op; first | go_big_quiet_on | (refine ⟨_, fun _ _ => rfl, ?_⟩; go_big_quiet_on)))
  go_big_quiet_want
  go_big_quiet_op
  refine ⟨.int .i64 u, fun wq hq => call_cz HhA.out hq, ?_⟩
  go_big_quiet_on
  go_big_quiet_want
  go_big_quiet_op
  refine ⟨.int .i64 X, fun wq hq => call_cz HhSA.out hq, ?_⟩
  go_big_quiet_on
  go_big_quiet_want
  refine ⟨.agg #[.int .i64 p, .int .i64 c, .int .i64 n, .int .i64 b, .int .i64 r, .int .i64 f, .int .i64 g], fun wq hq => ?_, ?_⟩
  · obtain ⟨⟨_, ⟨q0, q1, q2, q3, q4, q5, q6⟩⟩, _, _, _⟩ := hq
    unfold Oper.quietAt
    simp [go_sem, q0, q1, q2, q3, q4, q5, q6, Oper.quietUpon]
  simp only [Act.put, List.setIfInBounds_toArray, List.set_cons_zero, List.set_cons_succ]
  go_big_quiet_on
  iterate 1 (first | go_big_quiet_skip | (go_big_quiet_want; go_big_quiet_op; first | go_big_quiet_on | (refine ⟨_, fun _ _ => rfl, ?_⟩; go_big_quiet_on)))
  go_big_quiet_want
  refine ⟨.agg #[.int .i64 p, .int .i64 c, .int .i64 n, .int .i64 b, .int .i64 r, .int .i64 f, .int .i64 g], fun wq hq => ?_, ?_⟩
  · obtain ⟨⟨_, ⟨q0, q1, q2, q3, q4, q5, q6⟩⟩, _, _, _⟩ := hq
    unfold Oper.quietAt
    simp [go_sem, q0, q1, q2, q3, q4, q5, q6, Oper.quietUpon]
  simp only [Act.put, List.setIfInBounds_toArray, List.set_cons_zero, List.set_cons_succ]
  go_big_quiet_on
  iterate 1 (first | go_big_quiet_skip | (go_big_quiet_want; go_big_quiet_op; first | go_big_quiet_on | (refine ⟨_, fun _ _ => rfl, ?_⟩; go_big_quiet_on)))
  go_big_quiet_want
  go_big_quiet_op
  refine ⟨.int .i64 v, fun wq hq => call_cz HhZ.out hq, ?_⟩
  go_big_quiet_on
  go_big_quiet_want
  go_big_quiet_op
  refine ⟨.int .i64 Y, fun wq hq => call_cz HhSZ.out hq, ?_⟩
  go_big_quiet_on
  iterate 2 (first | go_big_quiet_skip | (go_big_quiet_want; go_big_quiet_op; first | go_big_quiet_on | (refine ⟨_, fun _ _ => rfl, ?_⟩; go_big_quiet_on)))
  refine wpQuiet_nil ?_
  intro w2 hK2
  obtain ⟨⟨⟨c0, c1, c2, c3, c4, c5, c6⟩, ⟨d0, d1, d2, d3, d4, d5, d6⟩⟩, hl1, hl2, hB2⟩ := id hK2
  have HK2 := Lib.hid hK2
  clear hK2
  go_wp2_with fail
  refine (HhP.out _).mono ?_
  rintro e w3 ⟨rfl, hb3⟩
  have hK3 := HK2.out.below hb3
  clear c0 c1 c2 c3 c4 c5 c6 d0 d1 d2 d3 d4 d5 d6 hB2 hb3
  go_wp2_with fail
  have hK4 : Cz w w.heap.size w1.heap.size p c n b r f g w3.drew := hK3.below (by go_grown)
  clear hK3 HK2
  refine region_cz (by kernel_rfl) (by kernel_rfl) hK4 ?_
  clear hK4
  go_big_quiet_want
  go_big_quiet_op
  refine ⟨.bool true, fun wq hq => call_cz awake21 hq, ?_⟩
  go_big_quiet_on
  iterate 11 (first | go_big_quiet_skip | (go_big_quiet_want; go_big_quiet_op; first | go_big_quiet_on | (refine ⟨_, fun _ _ => rfl, ?_⟩; go_big_quiet_on)))
  go_big_quiet_want
  refine ⟨.agg #[.int .i64 p, .int .i64 c, .int .i64 n, .int .i64 b, .int .i64 r, .int .i64 f, .int .i64 g], fun wq hq => ?_, ?_⟩
  · obtain ⟨⟨_, ⟨q0, q1, q2, q3, q4, q5, q6⟩⟩, _, _, _⟩ := hq
    unfold Oper.quietAt
    simp [go_sem, q0, q1, q2, q3, q4, q5, q6, Oper.quietUpon]
  simp only [Act.put, List.setIfInBounds_toArray, List.set_cons_zero, List.set_cons_succ]
  go_big_quiet_on
  go_big_quiet_want
  go_big_quiet_op
  refine ⟨.int .i64 N, fun wq hq => call_cz HhN.out hq, ?_⟩
  go_big_quiet_on
  iterate 9 (first | go_big_quiet_skip | (go_big_quiet_want; go_big_quiet_op; first | go_big_quiet_on | (refine ⟨_, fun _ _ => rfl, ?_⟩; go_big_quiet_on)))
  go_big_quiet_want
  refine ⟨.agg #[.int .i64 p, .int .i64 c, .int .i64 n, .int .i64 b, .int .i64 r, .int .i64 f, .int .i64 g], fun wq hq => ?_, ?_⟩
  · obtain ⟨⟨_, ⟨q0, q1, q2, q3, q4, q5, q6⟩⟩, _, _, _⟩ := hq
    unfold Oper.quietAt
    simp [go_sem, q0, q1, q2, q3, q4, q5, q6, Oper.quietUpon]
  simp only [Act.put, List.setIfInBounds_toArray, List.set_cons_zero, List.set_cons_succ]
  go_big_quiet_on
  iterate 1 (first | go_big_quiet_skip | (go_big_quiet_want; go_big_quiet_op; first | go_big_quiet_on | (refine ⟨_, fun _ _ => rfl, ?_⟩; go_big_quiet_on)))
  go_big_quiet_want
  go_big_quiet_op
  refine ⟨.int .i64 u, fun wq hq => call_cz HhA.out hq, ?_⟩
  go_big_quiet_on
  iterate 3 (first | go_big_quiet_skip | (go_big_quiet_want; go_big_quiet_op; first | go_big_quiet_on | (refine ⟨_, fun _ _ => rfl, ?_⟩; go_big_quiet_on)))
  go_big_quiet_want
  refine ⟨.agg #[.int .i64 p, .int .i64 c, .int .i64 n, .int .i64 b, .int .i64 r, .int .i64 f, .int .i64 g], fun wq hq => ?_, ?_⟩
  · obtain ⟨⟨_, ⟨q0, q1, q2, q3, q4, q5, q6⟩⟩, _, _, _⟩ := hq
    unfold Oper.quietAt
    simp [go_sem, q0, q1, q2, q3, q4, q5, q6, Oper.quietUpon]
  simp only [Act.put, List.setIfInBounds_toArray, List.set_cons_zero, List.set_cons_succ]
  go_big_quiet_on
  go_big_quiet_want
  go_big_quiet_op
  refine ⟨.int .i64 0, fun wq hq => call_cz Hh1.out hq, ?_⟩
  go_big_quiet_on
  iterate 3 (first | go_big_quiet_skip | (go_big_quiet_want; go_big_quiet_op; first | go_big_quiet_on | (refine ⟨_, fun _ _ => rfl, ?_⟩; go_big_quiet_on)))
  go_big_quiet_want
  refine ⟨.agg #[.int .i64 p, .int .i64 c, .int .i64 n, .int .i64 b, .int .i64 r, .int .i64 f, .int .i64 g], fun wq hq => ?_, ?_⟩
  · obtain ⟨⟨_, ⟨q0, q1, q2, q3, q4, q5, q6⟩⟩, _, _, _⟩ := hq
    unfold Oper.quietAt
    simp [go_sem, q0, q1, q2, q3, q4, q5, q6, Oper.quietUpon]
  simp only [Act.put, List.setIfInBounds_toArray, List.set_cons_zero, List.set_cons_succ]
  go_big_quiet_on
  go_big_quiet_want
  go_big_quiet_op
  refine ⟨.int .i64 (b - 1), fun wq hq => call_cz Hh9.out hq, ?_⟩
  go_big_quiet_on
  iterate 1 (first | go_big_quiet_skip | (go_big_quiet_want; go_big_quiet_op; first | go_big_quiet_on | (refine ⟨_, fun _ _ => rfl, ?_⟩; go_big_quiet_on)))
  go_big_quiet_want
  refine ⟨.int .i64 b, fun wq hq => ?_, ?_⟩
  · obtain ⟨⟨⟨q0, q1, q2, q3, q4, q5, q6⟩, _⟩, _, _, _⟩ := hq
    unfold Oper.quietAt
    simp [go_sem, q3, Oper.quietUpon]
  simp only [Act.put, List.setIfInBounds_toArray, List.set_cons_zero, List.set_cons_succ]
  go_big_quiet_on
  iterate 4 (first | go_big_quiet_skip | (go_big_quiet_want; go_big_quiet_op; first | go_big_quiet_on | (refine ⟨_, fun _ _ => rfl, ?_⟩; go_big_quiet_on)))
  refine wpQuiet_nil ?_
  intro wz hz
  have hBz : Below w.heap.size w wz := hz.2.2.2
  go_wp2
  go_ret
  exact ⟨rfl, hBz⟩

set_option maxRecDepth 100000 in
set_option maxHeartbeats 2000000 in
theorem arg1 (p c n b r f g nm a z : Int) (w : World) (hNew : ∀ W, Calls Try.prog 20 #[.agg #[.int .i64 p, .int .i64 c, .int .i64 n, .int .i64 b, .int .i64 r, .int .i64 f, .int .i64 g]] W (NewOk W p c n b r f g)) (h : a < 1) :
    Calls Try.prog 6 #[.agg #[.int .i64 p, .int .i64 c, .int .i64 n, .int .i64 b, .int .i64 r, .int .i64 f, .int .i64 g], .int .i64 nm, .int .i64 a, .int .i64 z] w fun e w' => e = .returned (.bool true) ∧ Below w.heap.size w w' := by
  have HhNew := Lib.hid hNew
  clear hNew
  go_enter Try.func6, Try.ntmps6
  go_wp2_with fail
  refine (HhNew.out _).mono ?_
  rintro e w1 ⟨rfl, hb1⟩
  have hz1 := hb1.size
  obtain ⟨hc1, hf1⟩ := bcell hb1
  simp only [World.size_alloc] at hz1 hc1 hf1
  have hy1 : w.heap.size < w1.heap.size := by omega
  have hB1 : Below w.heap.size w w1 := Below.step (by go_grown) hb1
  have hs1 := hB1.size
  have hB2 : Below w.heap.size w (w1.alloc (Obj.cells #[.int .i64 p, .int .i64 c, .int .i64 n, .int .i64 b, .int .i64 r, .int .i64 f, .int .i64 g] 45)) := by go_grown
  clear hb1
  go_wp2_with fail
  refine (awake21 _).mono ?_
  rintro e w3 ⟨rfl, hb3⟩
  go_wp2
  go_ret
  exact ⟨rfl, Below.step hB2 hb3⟩

set_option maxRecDepth 100000 in
set_option maxHeartbeats 2000000 in
theorem arg2 (p c n b r f g nm a z : Int) (w : World) (hNew : ∀ W, Calls Try.prog 20 #[.agg #[.int .i64 p, .int .i64 c, .int .i64 n, .int .i64 b, .int .i64 r, .int .i64 f, .int .i64 g]] W (NewOk W p c n b r f g)) (h1 : 1 ≤ a) (h : z < a) :
    Calls Try.prog 6 #[.agg #[.int .i64 p, .int .i64 c, .int .i64 n, .int .i64 b, .int .i64 r, .int .i64 f, .int .i64 g], .int .i64 nm, .int .i64 a, .int .i64 z] w fun e w' => e = .returned (.bool true) ∧ Below w.heap.size w w' := by
  have HhNew := Lib.hid hNew
  clear hNew
  go_enter Try.func6, Try.ntmps6
  go_wp2_with fail
  refine (HhNew.out _).mono ?_
  rintro e w1 ⟨rfl, hb1⟩
  have hz1 := hb1.size
  obtain ⟨hc1, hf1⟩ := bcell hb1
  simp only [World.size_alloc] at hz1 hc1 hf1
  have hy1 : w.heap.size < w1.heap.size := by omega
  have hB1 : Below w.heap.size w w1 := Below.step (by go_grown) hb1
  have hs1 := hB1.size
  have hB2 : Below w.heap.size w (w1.alloc (Obj.cells #[.int .i64 p, .int .i64 c, .int .i64 n, .int .i64 b, .int .i64 r, .int .i64 f, .int .i64 g] 45)) := by go_grown
  clear hb1
  go_wp2_with fail
  refine (awake21 _).mono ?_
  rintro e w3 ⟨rfl, hb3⟩
  go_wp2
  go_ret
  exact ⟨rfl, Below.step hB2 hb3⟩

set_option maxRecDepth 100000 in
set_option maxHeartbeats 2000000 in
theorem arg3 (p c n b r f g nm a z : Int) (w : World) (hNew : ∀ W, Calls Try.prog 20 #[.agg #[.int .i64 p, .int .i64 c, .int .i64 n, .int .i64 b, .int .i64 r, .int .i64 f, .int .i64 g]] W (NewOk W p c n b r f g)) (h1 : 1 ≤ a) (h2 : a ≤ z) (h : 9999 < z) :
    Calls Try.prog 6 #[.agg #[.int .i64 p, .int .i64 c, .int .i64 n, .int .i64 b, .int .i64 r, .int .i64 f, .int .i64 g], .int .i64 nm, .int .i64 a, .int .i64 z] w fun e w' => e = .returned (.bool true) ∧ Below w.heap.size w w' := by
  have HhNew := Lib.hid hNew
  clear hNew
  go_enter Try.func6, Try.ntmps6
  go_wp2_with fail
  refine (HhNew.out _).mono ?_
  rintro e w1 ⟨rfl, hb1⟩
  have hz1 := hb1.size
  obtain ⟨hc1, hf1⟩ := bcell hb1
  simp only [World.size_alloc] at hz1 hc1 hf1
  have hy1 : w.heap.size < w1.heap.size := by omega
  have hB1 : Below w.heap.size w w1 := Below.step (by go_grown) hb1
  have hs1 := hB1.size
  have hB2 : Below w.heap.size w (w1.alloc (Obj.cells #[.int .i64 p, .int .i64 c, .int .i64 n, .int .i64 b, .int .i64 r, .int .i64 f, .int .i64 g] 45)) := by go_grown
  clear hb1
  go_wp2_with fail
  refine (awake21 _).mono ?_
  rintro e w3 ⟨rfl, hb3⟩
  go_wp2
  go_ret
  exact ⟨rfl, Below.step hB2 hb3⟩

set_option maxRecDepth 100000 in
set_option maxHeartbeats 2000000 in
theorem arg4 (p c n b r f g nm a z : Int) (w : World) (hNew : ∀ W, Calls Try.prog 20 #[.agg #[.int .i64 p, .int .i64 c, .int .i64 n, .int .i64 b, .int .i64 r, .int .i64 f, .int .i64 g]] W (NewOk W p c n b r f g)) (h1 : 1 ≤ a) (h2 : a ≤ z) (h3 : z ≤ 9999) (h : nm < 0) :
    Calls Try.prog 6 #[.agg #[.int .i64 p, .int .i64 c, .int .i64 n, .int .i64 b, .int .i64 r, .int .i64 f, .int .i64 g], .int .i64 nm, .int .i64 a, .int .i64 z] w fun e w' => e = .returned (.bool true) ∧ Below w.heap.size w w' := by
  have HhNew := Lib.hid hNew
  clear hNew
  go_enter Try.func6, Try.ntmps6
  go_wp2_with fail
  refine (HhNew.out _).mono ?_
  rintro e w1 ⟨rfl, hb1⟩
  have hz1 := hb1.size
  obtain ⟨hc1, hf1⟩ := bcell hb1
  simp only [World.size_alloc] at hz1 hc1 hf1
  have hy1 : w.heap.size < w1.heap.size := by omega
  have hB1 : Below w.heap.size w w1 := Below.step (by go_grown) hb1
  have hs1 := hB1.size
  have hB2 : Below w.heap.size w (w1.alloc (Obj.cells #[.int .i64 p, .int .i64 c, .int .i64 n, .int .i64 b, .int .i64 r, .int .i64 f, .int .i64 g] 45)) := by go_grown
  clear hb1
  go_wp2_with fail
  refine (awake21 _).mono ?_
  rintro e w3 ⟨rfl, hb3⟩
  go_wp2
  go_ret
  exact ⟨rfl, Below.step hB2 hb3⟩

set_option maxRecDepth 100000 in
set_option maxHeartbeats 2000000 in
theorem arg5 (p c n b r f g nm a z : Int) (w : World) (hNew : ∀ W, Calls Try.prog 20 #[.agg #[.int .i64 p, .int .i64 c, .int .i64 n, .int .i64 b, .int .i64 r, .int .i64 f, .int .i64 g]] W (NewOk W p c n b r f g)) (h1 : 1 ≤ a) (h2 : a ≤ z) (h3 : z ≤ 9999) (h4 : 0 ≤ nm) (h : n ≤ nm) :
    Calls Try.prog 6 #[.agg #[.int .i64 p, .int .i64 c, .int .i64 n, .int .i64 b, .int .i64 r, .int .i64 f, .int .i64 g], .int .i64 nm, .int .i64 a, .int .i64 z] w fun e w' => e = .returned (.bool true) ∧ Below w.heap.size w w' := by
  have HhNew := Lib.hid hNew
  clear hNew
  go_enter Try.func6, Try.ntmps6
  go_wp2_with fail
  refine (HhNew.out _).mono ?_
  rintro e w1 ⟨rfl, hb1⟩
  have hz1 := hb1.size
  obtain ⟨hc1, hf1⟩ := bcell hb1
  simp only [World.size_alloc] at hz1 hc1 hf1
  have hy1 : w.heap.size < w1.heap.size := by omega
  have hB1 : Below w.heap.size w w1 := Below.step (by go_grown) hb1
  have hs1 := hB1.size
  have hB2 : Below w.heap.size w (w1.alloc (Obj.cells #[.int .i64 p, .int .i64 c, .int .i64 n, .int .i64 b, .int .i64 r, .int .i64 f, .int .i64 g] 45)) := by go_grown
  clear hb1
  go_wp2_with fail
  refine (awake21 _).mono ?_
  rintro e w3 ⟨rfl, hb3⟩
  go_wp2
  go_ret
  exact ⟨rfl, Below.step hB2 hb3⟩

set_option maxRecDepth 100000 in
set_option maxHeartbeats 2000000 in
theorem cfg_bad (p c n b r f g nm a z : Int) (w : World) (hNew : ∀ W, Calls Try.prog 20 #[.agg #[.int .i64 p, .int .i64 c, .int .i64 n, .int .i64 b, .int .i64 r, .int .i64 f, .int .i64 g]] W (NewBad W)) :
    Calls Try.prog 6 #[.agg #[.int .i64 p, .int .i64 c, .int .i64 n, .int .i64 b, .int .i64 r, .int .i64 f, .int .i64 g], .int .i64 nm, .int .i64 a, .int .i64 z] w fun e w' => e = .returned (.bool true) ∧ Below w.heap.size w w' := by
  have HhNew := Lib.hid hNew
  clear hNew
  go_enter Try.func6, Try.ntmps6
  go_wp2_with fail
  refine (HhNew.out _).mono ?_
  rintro e w1 ⟨T, v, rfl, hb1⟩
  have hz1 := hb1.size
  have hB1 : Below w.heap.size w w1 := Below.step (by go_grown) hb1
  have hs1 := hB1.size
  have hB2 : Below w.heap.size w (w1.alloc (Obj.cells #[.int .i64 0, .int .i64 0, .int .i64 0, .int .i64 0, .int .i64 0, .int .i64 0, .int .i64 0] 45)) := by go_grown
  clear hb1
  go_wp2_with fail
  refine (awake21 _).mono ?_
  rintro e w3 ⟨rfl, hb3⟩
  go_wp2
  go_ret
  exact ⟨rfl, Below.step hB2 hb3⟩
theorem band_num (x b : Int) (h1 : 1 ≤ b) (h2 : b ≤ 4) (x1 : 1 ≤ x) (x2 : x ≤ 9999) : 0 ≤ (x - 1) * b / 9999 ∧ (x - 1) * b / 9999 < b := by
  rcases (show b = 1 ∨ b = 2 ∨ b = 3 ∨ b = 4 by omega) with rfl | rfl | rfl | rfl <;> omega
theorem band_mono (a z b : Int) (h1 : 1 ≤ b) (h2 : b ≤ 4) (az : a ≤ z) : (a - 1) * b / 9999 ≤ (z - 1) * b / 9999 := by
  rcases (show b = 1 ∨ b = 2 ∨ b = 3 ∨ b = 4 by omega) with rfl | rfl | rfl | rfl <;> omega
theorem band_top (b : Int) (h1 : 1 ≤ b) (h2 : b ≤ 4) : (9999 - 1) * b / 9999 = b - 1 := by
  rcases (show b = 1 ∨ b = 2 ∨ b = 3 ∨ b = 4 by omega) with rfl | rfl | rfl | rfl <;> rfl
theorem shard_num (nm n b u : Int) (h1 : 1 ≤ b) (h2 : b ≤ 4) (m0 : 0 ≤ nm) (mn : nm < n) (u0 : 0 ≤ u) (ub : u < b) : 0 ≤ nm * b + u ∧ nm * b + u < n * b ∧ (nm * b + u) / b = nm ∧ (nm * b + u) % b = u := by
  rcases (show b = 1 ∨ b = 2 ∨ b = 3 ∨ b = 4 by omega) with rfl | rfl | rfl | rfl <;> (refine ⟨?_, ?_, ?_, ?_⟩ <;> omega)

theorem walk (a0_0 a0_1 a0_2 a0_3 a0_4 a0_5 a0_6 a1 a2 a3 : Int) (w : World) (w0_0 : (Lit.int .i64 a0_0).wf = true) (w0_1 : (Lit.int .i64 a0_1).wf = true) (w0_2 : (Lit.int .i64 a0_2).wf = true) (w0_3 : (Lit.int .i64 a0_3).wf = true) (w0_4 : (Lit.int .i64 a0_4).wf = true) (w0_5 : (Lit.int .i64 a0_5).wf = true) (w0_6 : (Lit.int .i64 a0_6).wf = true) (w1 : (Lit.int .i64 a1).wf = true) (w2 : (Lit.int .i64 a2).wf = true) (w3 : (Lit.int .i64 a3).wf = true) :
    Calls Try.prog 6 #[.agg #[.int .i64 a0_0, .int .i64 a0_1, .int .i64 a0_2, .int .i64 a0_3, .int .i64 a0_4, .int .i64 a0_5, .int .i64 a0_6], .int .i64 a1, .int .i64 a2, .int .i64 a3] w fun e w' => e = .returned (.bool true) ∧ Below w.heap.size w w' := by
  by_cases hk : (1 ≤ a0_0 ∧ a0_0 ≤ 6) ∧ (1 ≤ a0_1 ∧ a0_1 ≤ 4) ∧ (1 ≤ a0_2 ∧ a0_2 ≤ 3) ∧ (1 ≤ a0_3 ∧ a0_3 ≤ 4) ∧ (0 ≤ a0_4 ∧ a0_4 ≤ 4) ∧ (1 ≤ a0_5 ∧ a0_5 ≤ 4) ∧ (1 ≤ a0_6 ∧ a0_6 ≤ 15)
  · obtain ⟨hp, hc, hn, hb, hr, hf, hg⟩ := hk
    have hNew := fun W => new_ok a0_0 a0_1 a0_2 a0_3 a0_4 a0_5 a0_6 W hp hc hn hb hr hf hg
    by_cases e1 : a2 < 1
    · exact arg1 _ _ _ _ _ _ _ _ _ _ w hNew e1
    by_cases e2 : a3 < a2
    · exact arg2 _ _ _ _ _ _ _ _ _ _ w hNew (by omega) e2
    by_cases e3 : 9999 < a3
    · exact arg3 _ _ _ _ _ _ _ _ _ _ w hNew (by omega) (by omega) e3
    by_cases e4 : a1 < 0
    · exact arg4 _ _ _ _ _ _ _ _ _ _ w hNew (by omega) (by omega) (by omega) e4
    by_cases e5 : a0_2 ≤ a1
    · exact arg5 _ _ _ _ _ _ _ _ _ _ w hNew (by omega) (by omega) (by omega) (by omega) e5
    have u := band_num a2 a0_3 hb.1 hb.2 (by omega) (by omega)
    have v := band_num a3 a0_3 hb.1 hb.2 (by omega) (by omega)
    have m := band_mono a2 a3 a0_3 hb.1 hb.2 (by omega)
    have x := shard_num a1 a0_2 a0_3 _ hb.1 hb.2 (by omega) (by omega) u.1 u.2
    have y := shard_num a1 a0_2 a0_3 _ hb.1 hb.2 (by omega) (by omega) v.1 v.2
    refine good a0_0 a0_1 a0_2 a0_3 a0_4 a0_5 a0_6 a1 a2 a3 _ _ _ _ _ w hNew (fun W => band_ok _ _ _ _ _ _ _ a2 hb.1 hb.2 (by omega) (by omega) W) (fun W => band_ok _ _ _ _ _ _ _ a3 hb.1 hb.2 (by omega) (by omega) W) (fun W => ?_) (fun W => ?_)
      (fun W => shard_ok _ _ _ _ _ _ _ _ _ hn.1 hn.2 hb.1 hb.2 (by omega) (by omega) u.1 u.2 W) (fun W => shard_ok _ _ _ _ _ _ _ _ _ hn.1 hn.2 hb.1 hb.2 (by omega) (by omega) v.1 v.2 W) (fun W => ?_) (fun W => shards_ok _ _ _ _ _ _ _ hn.1 hn.2 hb.1 hb.2 W) hb.1 hb.2 (by omega) (by omega) (by omega) (by omega) (by omega) x.1 (by omega) y.2.1
    · have h := band_ok a0_0 a0_1 a0_2 a0_3 a0_4 a0_5 a0_6 1 hb.1 hb.2 (by omega) (by omega) W
      rw [show ((1 : Int) - 1) * a0_3 / 9999 = 0 from by simp] at h
      exact h
    · have h := band_ok a0_0 a0_1 a0_2 a0_3 a0_4 a0_5 a0_6 9999 hb.1 hb.2 (by omega) (by omega) W
      rw [band_top a0_3 hb.1 hb.2] at h
      exact h
    · have h := parted_ok a0_0 a0_1 a0_2 a0_3 a0_4 a0_5 a0_6 _ hn.1 hn.2 hb.1 hb.2 x.1 x.2.1 W
      rw [x.2.2.1, x.2.2.2] at h
      exact h
  · exact cfg_bad _ _ _ _ _ _ _ _ _ _ w (fun W => new_bad _ _ _ _ _ _ _ W hk)
end Go.Proofs.Ytbooncoealpfdaa.rulesShards

/-
  A right reply is told to be right.
-/
import Derived.Test.YtinciphhoieonaaGreatDoorRows
import Derived.Test.YtinciphhoieonaaGreatDoorKit
import Derived.Test.YtinciphhoieonaaGreatDoorApp
import Derived.Test.YtinciphhoieonaaGreatDoorQuiet
import Derived.WalkKit
import Derived.ProofKit
import Derived.OpenShut
import Derived.ShutString
import Derived.Below
import Derived.Outline
import Derived.WalkLawsBesides
import Derived.WalkSpells
import Derived.Handy
import Derived.Deep.QuietTactic
import Derived.BigQuiet
import Derived.RegionTactic
import Derived.ChangeAlike
import Derived.Lib.Hide
import Derived.Laws.Rows
import Derived.Laws.Tables
import Derived.Laws.CopyOwn
import Derived.Laws.MakeOwn
import Derived.Laws.Entries
import Derived.Laws.OwnMore
import Derived.Deep.WholeRow
import Derived.Deep.LoopGhost
import Derived.Deep.AppendLies
import Derived.Deep.Draws
import Derived.Maps.AppendAt
import Derived.OwnWalk
import Derived.Deep.RegionHeld3
import Derived.Deep.Cut
import Derived.Deep.CutRange
import Derived.Deep.DeepCutAuto
import Derived.Deep.CutBlock
import Derived.Lib.SliceRun
import Derived.IntWalk
import Derived.Laws.Strings
import Derived.Lib.Bytealg
import Derived.Lib.Strings
import Derived.Laws.Externs
import Derived.Test.YtinciphhoieonaaGreatDoorAnA
import Derived.Deep.Slices
import Derived.Deep.Fields
import Derived.ChangeSame
import Derived.ChangeArms
import Derived.Deep.MidRow
import Derived.Deep.Upon
namespace Go.Proofs.YtinciphhoieonaaGreatDoor
open Go.ChangeShapes Go.WideShapes Go.ChangeAt Go.RowKit
/-- A row of looks that can be read. -/
def LkAt (A : Option Addr) (L : List Lk) (w : World) : Prop := 0 < L.length → ∃ ad, A = some ad ∧ ad.block < w.heap.size ∧ ∀ (i : Nat) (x : Lk), L[i]? = some x → w.cell? (ad.add (i * 3)) = some (.int .i64 x.k) ∧ w.cell? (ad.add (i * 3 + 1)) = some (.int .i64 x.l) ∧ w.cell? (ad.add (i * 3 + 2)) = some (.int .i64 x.f)
theorem LkAt.below {A : Option Addr} {L : List Lk} {w w' : World} (h : LkAt A L w) (hb : Below w.heap.size w w') : LkAt A L w' := fun h0 => by
  obtain ⟨ad, e, hl, hc⟩ := h h0
  have hk : ∀ j, w'.cell? (ad.add j) = w.cell? (ad.add j) := fun j => hb.cell (p := ad.add j) (by rw [block_of_add]; exact hl)
  exact ⟨ad, e, by have := hb.size; omega, fun i x hx => ⟨(hk _).trans (hc i x hx).1, (hk _).trans (hc i x hx).2.1, (hk _).trans (hc i x hx).2.2⟩⟩
theorem rrec_ok (r0 r1 r2 r3 : Int) (h0 : 1 ≤ r0 ∧ r0 ≤ 5) (h1 : 0 ≤ r1 ∧ r1 ≤ 9999999) (h2 : 0 ≤ r2 ∧ r2 ≤ 9999999) (h3 : 0 ≤ r3 ∧ r3 ≤ 9999999) (w : World) : Calls Tryz.prog 27 #[.agg #[.int .i64 r0, .int .i64 r1, .int .i64 r2, .int .i64 r3, .int .i64 0, .int .i64 0]] w fun e w' => e = .returned (.bool true) ∧ Below w.heap.size w w' := by
  have gA : Below w.heap.size w (w.alloc (.cells #[.int .i64 r0, .int .i64 r1, .int .i64 r2, .int .i64 r3, .int .i64 0, .int .i64 0] 24)) := by go_grown
  have bA := Bl.new w [.int .i64 r0, .int .i64 r1, .int .i64 r2, .int .i64 r3, .int .i64 0, .int .i64 0] 24
  have gB : Below (w.alloc (.cells #[.int .i64 r0, .int .i64 r1, .int .i64 r2, .int .i64 r3, .int .i64 0, .int .i64 0] 24)).heap.size (w.alloc (.cells #[.int .i64 r0, .int .i64 r1, .int .i64 r2, .int .i64 r3, .int .i64 0, .int .i64 0] 24)) ((w.alloc (.cells #[.int .i64 r0, .int .i64 r1, .int .i64 r2, .int .i64 r3, .int .i64 0, .int .i64 0] 24)).alloc (.cells #[.int .i64 r1, .int .i64 r2, .int .i64 r3] 3)) := by go_grown
  have bB := Bl.new (w.alloc (.cells #[.int .i64 r0, .int .i64 r1, .int .i64 r2, .int .i64 r3, .int .i64 0, .int .i64 0] 24)) [.int .i64 r1, .int .i64 r2, .int .i64 r3] 3
  have zA : (w.alloc (.cells #[.int .i64 r0, .int .i64 r1, .int .i64 r2, .int .i64 r3, .int .i64 0, .int .i64 0] 24)).heap.size = w.heap.size + 1 := World.size_alloc ..
  rw [zA] at bB
  have HB := Lib.hid (And.intro (Below.step gA gB) (bA.below gB))
  have HN := Lib.hid (number_ok (w.heap.size + 1) 3 3 [r1, r2, r3] rfl (by decide) (by intro x hx; simp only [List.mem_cons, List.not_mem_nil, or_false] at hx; rcases hx with rfl | rfl | rfl; exact h1; exact h2; exact h3) _ (fun i x hx => bB.cell i _ (by have : ([.int .i64 r1, .int .i64 r2, .int .i64 r3] : List Value) = [r1, r2, r3].map (Value.int .i64) := rfl; rw [this, List.getElem?_map, hx]; rfl)))
  have a1 : 1 ≤ r0 := h0.1
  have a2 : r0 ≤ 5 := h0.2
  clear gA gB bA bB zA h0 h1 h2 h3
  go_enter Tryz.func27, Tryz.ntmps27
  go_wp2_with fail
  refine HN.out.mono ?_
  rintro e1 w1 ⟨rfl, hw1⟩
  subst hw1
  have bz := HB.out.2
  have y0 := bz.cell 0 _ rfl
  have y1 := bz.cell 1 _ rfl
  have y2 := bz.cell 2 _ rfl
  have y3 := bz.cell 3 _ rfl
  have y4 := bz.cell 4 _ rfl
  have y5 := bz.cell 5 _ rfl
  clear bz
  go_wp2_with fail
  go_ret
  exact ⟨rfl, HB.out.1⟩
set_option maxRecDepth 100000 in
set_option maxHeartbeats 8000000 in
theorem rlooks_ok (A : Option Addr) (L : List Lk) (cap : Nat) (hl : L.length ≤ 1000) (hr : ∀ x ∈ L, lkR x = true) (w : World) (hL : LkAt A L w) : Calls Tryz.prog 28 #[.slice A L.length cap] w fun e w' => e = .returned (.bool true) ∧ Below w.heap.size w w' := by
  have HL := Lib.hid hL
  have HR := Lib.hid hr
  have n1 : (L.length : Int) ≤ 1000 := by omega
  clear hL hr hl
  go_enter Tryz.func28, Tryz.ntmps28
  go_wp2_with fail
  go_loopw [8] (fun j wr => ∃ i : Nat, i ≤ L.length ∧ j = .int .i64 (i : Int) ∧ Hid (Below w.heap.size w wr)) (fun j _ => L.length + 1 - (intOf j).toNat)
  case atStart => exact ⟨0, Nat.zero_le _, rfl, Lib.hid (Below.refl _ _)⟩
  case round =>
    obtain ⟨i, hi, rfl, HB⟩ := hrel
    have i0 : (0 : Int) ≤ (i : Int) := by omega
    by_cases hlt : i < L.length
    · have hx : L[i]? = some L[i] := List.getElem?_eq_getElem hlt
      have ha := lkR_out (HR.out L[i] (List.getElem_mem hlt))
      obtain ⟨ad, rfl, hb, hc⟩ := (HL.out.below HB.out) (by omega)
      obtain ⟨d0, d1', d2'⟩ := hc i _ hx
      generalize L[i] = x at ha d0 d1' d2'
      obtain ⟨xk, xl, xf⟩ := x
      simp only at ha d0 d1' d2'
      have d1 : wr.cell? ⟨(ad.add (i * 3)).block, (ad.add (i * 3)).off + 1, none⟩ = some (.int .i64 xl) := by
        rw [← addp _ 1 (by decide) (World.cell?_spot d0), add_of_add]; exact d1'
      have d2 : wr.cell? ⟨(ad.add (i * 3)).block, (ad.add (i * 3)).off + 2, none⟩ = some (.int .i64 xf) := by
        rw [← addp _ 2 (by decide) (World.cell?_spot d0), add_of_add]; exact d2'
      have q1 : (i : Int) < (L.length : Int) := by omega
      have Hi := Lib.hid hlt
      have gA : Below wr.heap.size wr (wr.alloc (.cells #[.int .i64 xk, .int .i64 xl, .int .i64 xf] 54)) := by go_grown
      have bA := Bl.new wr [.int .i64 xk, .int .i64 xl, .int .i64 xf] 54
      have gB : Below (wr.alloc (.cells #[.int .i64 xk, .int .i64 xl, .int .i64 xf] 54)).heap.size (wr.alloc (.cells #[.int .i64 xk, .int .i64 xl, .int .i64 xf] 54)) ((wr.alloc (.cells #[.int .i64 xk, .int .i64 xl, .int .i64 xf] 54)).alloc (.cells #[.int .i64 xl, .int .i64 xf] 3)) := by go_grown
      have bB := Bl.new (wr.alloc (.cells #[.int .i64 xk, .int .i64 xl, .int .i64 xf] 54)) [.int .i64 xl, .int .i64 xf] 3
      have zA : (wr.alloc (.cells #[.int .i64 xk, .int .i64 xl, .int .i64 xf] 54)).heap.size = wr.heap.size + 1 := World.size_alloc ..
      rw [zA] at bB
      have HB2 := Lib.hid (Below.step HB.out (Below.step gA gB))
      have HN := Lib.hid (number_ok (wr.heap.size + 1) 2 2 [xl, xf] rfl (by decide) (by intro x hx; simp only [List.mem_cons, List.not_mem_nil, or_false] at hx; rcases hx with rfl | rfl; exact ha.2.1; exact ha.2.2) _ (fun i x hx => bB.cell i _ (by have : ([.int .i64 xl, .int .i64 xf] : List Value) = [xl, xf].map (Value.int .i64) := rfl; rw [this, List.getElem?_map, hx]; rfl)))
      have hk := ha.1
      clear hx hb hc d1' d2' ha hlt hi gA bA gB bB zA
      rcases hk with rfl | rfl | rfl | rfl | rfl | rfl
      all_goals
        go_wp2_with fail
        refine HN.out.mono ?_
        rintro e1 w1 ⟨rfl, hw1⟩
        subst hw1
        go_wp2_with fail
        go_roundw
        case rel => exact ⟨i + 1, Hi.out, by go_num, HB2⟩
        case measure => have := Hi.out; simp [intOf]; omega
    · obtain rfl : i = L.length := by omega
      have q5 : decide ((L.length : Int) < (L.length : Int)) = false := decide_eq_false (by omega)
      clear hi hlt
      go_wp2_with fail
      go_ret
      exact ⟨rfl, HB.out⟩
theorem neqRecZ (w : World) : (binOp .neq 24 (.agg (List.toArray [.int .i64 0, .int .i64 0, .int .i64 0, .int .i64 0, .int .i64 0, .int .i64 0])) (.agg (List.toArray [.int .i64 0, .int .i64 0, .int .i64 0, .int .i64 0, .int .i64 0, .int .i64 0]))).run Tryz.prog w = .ok (.bool false) w := by
  have u3 := Tryz.underlying3
  have a3' := Tryz.isAgg3
  have z3 := Tryz.sizeOf3
  have hS : Tryz.prog.underlying 24 = some (.struct (Tryz.prog.fieldsOf 24)) := by kernel_rfl
  have hp : Tryz.prog.stoodInHeld 24 = false := by kernel_rfl
  have h : (Op.equalIn 10000 24 (.agg (List.toArray [.int .i64 0, .int .i64 0, .int .i64 0, .int .i64 0, .int .i64 0, .int .i64 0])) (.agg (List.toArray [.int .i64 0, .int .i64 0, .int .i64 0, .int .i64 0, .int .i64 0, .int .i64 0]))).run Tryz.prog w = .ok true w := by
    rw [show (10000 : Nat) = 9999 + 1 from rfl, run_equalIn_agg w 9999 24 _ _ hS hp]
    simp only [Program.fieldsOf, Tryz.underlying24]
    go_simp
  simp only [binOp]
  simp [Op.equal, Op.maxDepth, h]
theorem neqRecN (r0 r1 r2 r3 r4 r5 : Int) (h0 : 1 ≤ r0) (w : World) : (binOp .neq 24 (.agg (List.toArray [.int .i64 r0, .int .i64 r1, .int .i64 r2, .int .i64 r3, .int .i64 r4, .int .i64 r5])) (.agg (List.toArray [.int .i64 0, .int .i64 0, .int .i64 0, .int .i64 0, .int .i64 0, .int .i64 0]))).run Tryz.prog w = .ok (.bool true) w := by
  have u3 := Tryz.underlying3
  have a3' := Tryz.isAgg3
  have z3 := Tryz.sizeOf3
  have hS : Tryz.prog.underlying 24 = some (.struct (Tryz.prog.fieldsOf 24)) := by kernel_rfl
  have hp : Tryz.prog.stoodInHeld 24 = false := by kernel_rfl
  have hz : (r0 == 0) = false := beq_eq_false_iff_ne.2 (by omega)
  have h : (Op.equalIn 10000 24 (.agg (List.toArray [.int .i64 r0, .int .i64 r1, .int .i64 r2, .int .i64 r3, .int .i64 r4, .int .i64 r5])) (.agg (List.toArray [.int .i64 0, .int .i64 0, .int .i64 0, .int .i64 0, .int .i64 0, .int .i64 0]))).run Tryz.prog w = .ok false w := by
    rw [show (10000 : Nat) = 9999 + 1 from rfl, run_equalIn_agg w 9999 24 _ _ hS hp]
    simp only [Program.fieldsOf, Tryz.underlying24]
    go_simp
    try simp [hz]
  simp only [binOp]
  simp [Op.equal, Op.maxDepth, h]
set_option maxRecDepth 100000 in
set_option maxHeartbeats 8000000 in
theorem right_00000 (k cd t : Int) (A : Option Addr) (cap : Nat) (hk : 1 ≤ k ∧ k ≤ 4) (ht : 0 ≤ t ∧ t ≤ 1000000) (hcd : 0 ≤ cd) (w : World) : Calls Tryz.prog 9 #[.agg (List.toArray [.int .i64 k, .int .i64 cd, .int .i64 t, .int .i64 0, .int .i64 0, .bool false, .int .i64 0, .int .i64 0, .int .i64 0, .int .i64 0, .int .i64 0, .int .i64 0, .slice A 0 cap])] w fun e w' => e = .returned (.bool true) ∧ Below w.heap.size w w' := by
  have gA : Below w.heap.size w (w.alloc (.cells (List.toArray [.int .i64 k, .int .i64 cd, .int .i64 t, .int .i64 0, .int .i64 0, .bool false, .int .i64 0, .int .i64 0, .int .i64 0, .int .i64 0, .int .i64 0, .int .i64 0, .slice A 0 cap]) 27)) := by go_grown
  have gB : Below (w.alloc (.cells (List.toArray [.int .i64 k, .int .i64 cd, .int .i64 t, .int .i64 0, .int .i64 0, .bool false, .int .i64 0, .int .i64 0, .int .i64 0, .int .i64 0, .int .i64 0, .int .i64 0, .slice A 0 cap]) 27)).heap.size (w.alloc (.cells (List.toArray [.int .i64 k, .int .i64 cd, .int .i64 t, .int .i64 0, .int .i64 0, .bool false, .int .i64 0, .int .i64 0, .int .i64 0, .int .i64 0, .int .i64 0, .int .i64 0, .slice A 0 cap]) 27)) ((w.alloc (.cells (List.toArray [.int .i64 k, .int .i64 cd, .int .i64 t, .int .i64 0, .int .i64 0, .bool false, .int .i64 0, .int .i64 0, .int .i64 0, .int .i64 0, .int .i64 0, .int .i64 0, .slice A 0 cap]) 27)).alloc (.cells #[.int .i64 0, .int .i64 0] 3)) := by go_grown
  have bA := (Bl.new w [.int .i64 k, .int .i64 cd, .int .i64 t, .int .i64 0, .int .i64 0, .bool false, .int .i64 0, .int .i64 0, .int .i64 0, .int .i64 0, .int .i64 0, .int .i64 0, .slice A 0 cap] 27).below gB
  have bB := Bl.new (w.alloc (.cells (List.toArray [.int .i64 k, .int .i64 cd, .int .i64 t, .int .i64 0, .int .i64 0, .bool false, .int .i64 0, .int .i64 0, .int .i64 0, .int .i64 0, .int .i64 0, .int .i64 0, .slice A 0 cap]) 27)) [.int .i64 0, .int .i64 0] 3
  have zA : (w.alloc (.cells (List.toArray [.int .i64 k, .int .i64 cd, .int .i64 t, .int .i64 0, .int .i64 0, .bool false, .int .i64 0, .int .i64 0, .int .i64 0, .int .i64 0, .int .i64 0, .int .i64 0, .slice A 0 cap]) 27)).heap.size = w.heap.size + 1 := World.size_alloc ..
  rw [zA] at bB
  have HB := Lib.hid (And.intro (Below.step gA gB) bA)
  have HN := Lib.hid (number_ok (w.heap.size + 1) 2 2 [0, 0] rfl (by decide) (by intro x hx; simp only [List.mem_cons, List.not_mem_nil, or_false] at hx; rcases hx with rfl | rfl; decide; decide) _ (fun q y hq => bB.cell q _ (by have : ([.int .i64 0, .int .i64 0] : List Value) = ([0, 0] : List Int).map (Value.int .i64) := rfl; rw [this, List.getElem?_map, hq]; rfl)))
  have a1 : decide (k < 1) = false := decide_eq_false (by omega)
  have a2 : decide (4 < k) = false := decide_eq_false (by omega)
  have a3 : decide (t < 0) = false := decide_eq_false (by omega)
  have a4 : decide (1000000 < t) = false := decide_eq_false (by omega)
  have a5 : decide (cd < 0) = false := decide_eq_false (by omega)
  have HNQ := fun W => neqRecZ W
  clear gA gB bA bB zA hk ht hcd
  go_enter Tryz.func9, Tryz.ntmps9
  go_wp2_with fail
  refine HN.out.mono ?_
  rintro e1 w1 ⟨rfl, hw1⟩
  subst hw1
  have bz := HB.out.2
  have y0 := bz.cell 0 _ rfl
  have y1 := bz.cell 1 _ rfl
  have y2 := bz.cell 2 _ rfl
  have y3 := bz.cell 3 _ rfl
  have y4 := bz.cell 4 _ rfl
  have y5 := bz.cell 5 _ rfl
  have y6 := bz.cell 6 _ rfl
  have y7 := bz.cell 7 _ rfl
  have y8 := bz.cell 8 _ rfl
  have y9 := bz.cell 9 _ rfl
  have y10 := bz.cell 10 _ rfl
  have y11 := bz.cell 11 _ rfl
  have y12 := bz.cell 12 _ rfl
  clear bz
  go_wp2_with fail
  go_ret
  exact ⟨rfl, HB.out.1⟩
set_option maxRecDepth 100000 in
set_option maxHeartbeats 8000000 in
theorem right_00100 (k cd t : Int) (A : Option Addr) (cap : Nat) (hk : 1 ≤ k ∧ k ≤ 4) (ht : 0 ≤ t ∧ t ≤ 1000000) (hcd : 0 ≤ cd) (ha : k = 2 ∧ cd = 0) (w : World) : Calls Tryz.prog 9 #[.agg (List.toArray [.int .i64 k, .int .i64 cd, .int .i64 t, .int .i64 0, .int .i64 0, .bool true, .int .i64 0, .int .i64 0, .int .i64 0, .int .i64 0, .int .i64 0, .int .i64 0, .slice A 0 cap])] w fun e w' => e = .returned (.bool true) ∧ Below w.heap.size w w' := by
  have gA : Below w.heap.size w (w.alloc (.cells (List.toArray [.int .i64 k, .int .i64 cd, .int .i64 t, .int .i64 0, .int .i64 0, .bool true, .int .i64 0, .int .i64 0, .int .i64 0, .int .i64 0, .int .i64 0, .int .i64 0, .slice A 0 cap]) 27)) := by go_grown
  have gB : Below (w.alloc (.cells (List.toArray [.int .i64 k, .int .i64 cd, .int .i64 t, .int .i64 0, .int .i64 0, .bool true, .int .i64 0, .int .i64 0, .int .i64 0, .int .i64 0, .int .i64 0, .int .i64 0, .slice A 0 cap]) 27)).heap.size (w.alloc (.cells (List.toArray [.int .i64 k, .int .i64 cd, .int .i64 t, .int .i64 0, .int .i64 0, .bool true, .int .i64 0, .int .i64 0, .int .i64 0, .int .i64 0, .int .i64 0, .int .i64 0, .slice A 0 cap]) 27)) ((w.alloc (.cells (List.toArray [.int .i64 k, .int .i64 cd, .int .i64 t, .int .i64 0, .int .i64 0, .bool true, .int .i64 0, .int .i64 0, .int .i64 0, .int .i64 0, .int .i64 0, .int .i64 0, .slice A 0 cap]) 27)).alloc (.cells #[.int .i64 0, .int .i64 0] 3)) := by go_grown
  have bA := (Bl.new w [.int .i64 k, .int .i64 cd, .int .i64 t, .int .i64 0, .int .i64 0, .bool true, .int .i64 0, .int .i64 0, .int .i64 0, .int .i64 0, .int .i64 0, .int .i64 0, .slice A 0 cap] 27).below gB
  have bB := Bl.new (w.alloc (.cells (List.toArray [.int .i64 k, .int .i64 cd, .int .i64 t, .int .i64 0, .int .i64 0, .bool true, .int .i64 0, .int .i64 0, .int .i64 0, .int .i64 0, .int .i64 0, .int .i64 0, .slice A 0 cap]) 27)) [.int .i64 0, .int .i64 0] 3
  have zA : (w.alloc (.cells (List.toArray [.int .i64 k, .int .i64 cd, .int .i64 t, .int .i64 0, .int .i64 0, .bool true, .int .i64 0, .int .i64 0, .int .i64 0, .int .i64 0, .int .i64 0, .int .i64 0, .slice A 0 cap]) 27)).heap.size = w.heap.size + 1 := World.size_alloc ..
  rw [zA] at bB
  have HB := Lib.hid (And.intro (Below.step gA gB) bA)
  have HN := Lib.hid (number_ok (w.heap.size + 1) 2 2 [0, 0] rfl (by decide) (by intro x hx; simp only [List.mem_cons, List.not_mem_nil, or_false] at hx; rcases hx with rfl | rfl; decide; decide) _ (fun q y hq => bB.cell q _ (by have : ([.int .i64 0, .int .i64 0] : List Value) = ([0, 0] : List Int).map (Value.int .i64) := rfl; rw [this, List.getElem?_map, hq]; rfl)))
  have a1 : decide (k < 1) = false := decide_eq_false (by omega)
  have a2 : decide (4 < k) = false := decide_eq_false (by omega)
  have a3 : decide (t < 0) = false := decide_eq_false (by omega)
  have a4 : decide (1000000 < t) = false := decide_eq_false (by omega)
  have a5 : decide (cd < 0) = false := decide_eq_false (by omega)
  have k2 : (k != 2) = false := by rw [ha.1]; rfl
  have d0 : (cd != 0) = false := by rw [ha.2]; rfl
  have HNQ := fun W => neqRecZ W
  clear gA gB bA bB zA hk ht hcd ha
  go_enter Tryz.func9, Tryz.ntmps9
  go_wp2_with fail
  refine HN.out.mono ?_
  rintro e1 w1 ⟨rfl, hw1⟩
  subst hw1
  have bz := HB.out.2
  have y0 := bz.cell 0 _ rfl
  have y1 := bz.cell 1 _ rfl
  have y2 := bz.cell 2 _ rfl
  have y3 := bz.cell 3 _ rfl
  have y4 := bz.cell 4 _ rfl
  have y5 := bz.cell 5 _ rfl
  have y6 := bz.cell 6 _ rfl
  have y7 := bz.cell 7 _ rfl
  have y8 := bz.cell 8 _ rfl
  have y9 := bz.cell 9 _ rfl
  have y10 := bz.cell 10 _ rfl
  have y11 := bz.cell 11 _ rfl
  have y12 := bz.cell 12 _ rfl
  clear bz
  go_wp2_with fail
  go_ret
  exact ⟨rfl, HB.out.1⟩
set_option maxRecDepth 100000 in
set_option maxHeartbeats 8000000 in
theorem right_01000 (k cd t c : Int) (A : Option Addr) (cap : Nat) (hk : 1 ≤ k ∧ k ≤ 4) (ht : 0 ≤ t ∧ t ≤ 1000000) (hcd : 0 ≤ cd) (hc : 1 ≤ c ∧ c ≤ 9999999) (hc2 : k ≤ 3) (w : World) : Calls Tryz.prog 9 #[.agg (List.toArray [.int .i64 k, .int .i64 cd, .int .i64 t, .int .i64 0, .int .i64 c, .bool false, .int .i64 0, .int .i64 0, .int .i64 0, .int .i64 0, .int .i64 0, .int .i64 0, .slice A 0 cap])] w fun e w' => e = .returned (.bool true) ∧ Below w.heap.size w w' := by
  have gA : Below w.heap.size w (w.alloc (.cells (List.toArray [.int .i64 k, .int .i64 cd, .int .i64 t, .int .i64 0, .int .i64 c, .bool false, .int .i64 0, .int .i64 0, .int .i64 0, .int .i64 0, .int .i64 0, .int .i64 0, .slice A 0 cap]) 27)) := by go_grown
  have gB : Below (w.alloc (.cells (List.toArray [.int .i64 k, .int .i64 cd, .int .i64 t, .int .i64 0, .int .i64 c, .bool false, .int .i64 0, .int .i64 0, .int .i64 0, .int .i64 0, .int .i64 0, .int .i64 0, .slice A 0 cap]) 27)).heap.size (w.alloc (.cells (List.toArray [.int .i64 k, .int .i64 cd, .int .i64 t, .int .i64 0, .int .i64 c, .bool false, .int .i64 0, .int .i64 0, .int .i64 0, .int .i64 0, .int .i64 0, .int .i64 0, .slice A 0 cap]) 27)) ((w.alloc (.cells (List.toArray [.int .i64 k, .int .i64 cd, .int .i64 t, .int .i64 0, .int .i64 c, .bool false, .int .i64 0, .int .i64 0, .int .i64 0, .int .i64 0, .int .i64 0, .int .i64 0, .slice A 0 cap]) 27)).alloc (.cells #[.int .i64 0, .int .i64 c] 3)) := by go_grown
  have bA := (Bl.new w [.int .i64 k, .int .i64 cd, .int .i64 t, .int .i64 0, .int .i64 c, .bool false, .int .i64 0, .int .i64 0, .int .i64 0, .int .i64 0, .int .i64 0, .int .i64 0, .slice A 0 cap] 27).below gB
  have bB := Bl.new (w.alloc (.cells (List.toArray [.int .i64 k, .int .i64 cd, .int .i64 t, .int .i64 0, .int .i64 c, .bool false, .int .i64 0, .int .i64 0, .int .i64 0, .int .i64 0, .int .i64 0, .int .i64 0, .slice A 0 cap]) 27)) [.int .i64 0, .int .i64 c] 3
  have zA : (w.alloc (.cells (List.toArray [.int .i64 k, .int .i64 cd, .int .i64 t, .int .i64 0, .int .i64 c, .bool false, .int .i64 0, .int .i64 0, .int .i64 0, .int .i64 0, .int .i64 0, .int .i64 0, .slice A 0 cap]) 27)).heap.size = w.heap.size + 1 := World.size_alloc ..
  rw [zA] at bB
  have HB := Lib.hid (And.intro (Below.step gA gB) bA)
  have HN := Lib.hid (number_ok (w.heap.size + 1) 2 2 [0, c] rfl (by decide) (by intro x hx; simp only [List.mem_cons, List.not_mem_nil, or_false] at hx; rcases hx with rfl | rfl; decide; omega) _ (fun q y hq => bB.cell q _ (by have : ([.int .i64 0, .int .i64 c] : List Value) = ([0, c] : List Int).map (Value.int .i64) := rfl; rw [this, List.getElem?_map, hq]; rfl)))
  have a1 : decide (k < 1) = false := decide_eq_false (by omega)
  have a2 : decide (4 < k) = false := decide_eq_false (by omega)
  have a3 : decide (t < 0) = false := decide_eq_false (by omega)
  have a4 : decide (1000000 < t) = false := decide_eq_false (by omega)
  have a5 : decide (cd < 0) = false := decide_eq_false (by omega)
  have c1 : (c != 0) = true := bne_iff_ne.2 (by omega)
  have k4 : (k == 4) = false := beq_eq_false_iff_ne.2 (by omega)
  have HNQ := fun W => neqRecZ W
  clear gA gB bA bB zA hk ht hcd hc hc2
  go_enter Tryz.func9, Tryz.ntmps9
  go_wp2_with fail
  refine HN.out.mono ?_
  rintro e1 w1 ⟨rfl, hw1⟩
  subst hw1
  have bz := HB.out.2
  have y0 := bz.cell 0 _ rfl
  have y1 := bz.cell 1 _ rfl
  have y2 := bz.cell 2 _ rfl
  have y3 := bz.cell 3 _ rfl
  have y4 := bz.cell 4 _ rfl
  have y5 := bz.cell 5 _ rfl
  have y6 := bz.cell 6 _ rfl
  have y7 := bz.cell 7 _ rfl
  have y8 := bz.cell 8 _ rfl
  have y9 := bz.cell 9 _ rfl
  have y10 := bz.cell 10 _ rfl
  have y11 := bz.cell 11 _ rfl
  have y12 := bz.cell 12 _ rfl
  clear bz
  go_wp2_with fail
  go_ret
  exact ⟨rfl, HB.out.1⟩
set_option maxRecDepth 100000 in
set_option maxHeartbeats 8000000 in
theorem right_01100 (k cd t c : Int) (A : Option Addr) (cap : Nat) (hk : 1 ≤ k ∧ k ≤ 4) (ht : 0 ≤ t ∧ t ≤ 1000000) (hcd : 0 ≤ cd) (hc : 1 ≤ c ∧ c ≤ 9999999) (hc2 : k ≤ 3) (ha : k = 2 ∧ cd = 0) (w : World) : Calls Tryz.prog 9 #[.agg (List.toArray [.int .i64 k, .int .i64 cd, .int .i64 t, .int .i64 0, .int .i64 c, .bool true, .int .i64 0, .int .i64 0, .int .i64 0, .int .i64 0, .int .i64 0, .int .i64 0, .slice A 0 cap])] w fun e w' => e = .returned (.bool true) ∧ Below w.heap.size w w' := by
  have gA : Below w.heap.size w (w.alloc (.cells (List.toArray [.int .i64 k, .int .i64 cd, .int .i64 t, .int .i64 0, .int .i64 c, .bool true, .int .i64 0, .int .i64 0, .int .i64 0, .int .i64 0, .int .i64 0, .int .i64 0, .slice A 0 cap]) 27)) := by go_grown
  have gB : Below (w.alloc (.cells (List.toArray [.int .i64 k, .int .i64 cd, .int .i64 t, .int .i64 0, .int .i64 c, .bool true, .int .i64 0, .int .i64 0, .int .i64 0, .int .i64 0, .int .i64 0, .int .i64 0, .slice A 0 cap]) 27)).heap.size (w.alloc (.cells (List.toArray [.int .i64 k, .int .i64 cd, .int .i64 t, .int .i64 0, .int .i64 c, .bool true, .int .i64 0, .int .i64 0, .int .i64 0, .int .i64 0, .int .i64 0, .int .i64 0, .slice A 0 cap]) 27)) ((w.alloc (.cells (List.toArray [.int .i64 k, .int .i64 cd, .int .i64 t, .int .i64 0, .int .i64 c, .bool true, .int .i64 0, .int .i64 0, .int .i64 0, .int .i64 0, .int .i64 0, .int .i64 0, .slice A 0 cap]) 27)).alloc (.cells #[.int .i64 0, .int .i64 c] 3)) := by go_grown
  have bA := (Bl.new w [.int .i64 k, .int .i64 cd, .int .i64 t, .int .i64 0, .int .i64 c, .bool true, .int .i64 0, .int .i64 0, .int .i64 0, .int .i64 0, .int .i64 0, .int .i64 0, .slice A 0 cap] 27).below gB
  have bB := Bl.new (w.alloc (.cells (List.toArray [.int .i64 k, .int .i64 cd, .int .i64 t, .int .i64 0, .int .i64 c, .bool true, .int .i64 0, .int .i64 0, .int .i64 0, .int .i64 0, .int .i64 0, .int .i64 0, .slice A 0 cap]) 27)) [.int .i64 0, .int .i64 c] 3
  have zA : (w.alloc (.cells (List.toArray [.int .i64 k, .int .i64 cd, .int .i64 t, .int .i64 0, .int .i64 c, .bool true, .int .i64 0, .int .i64 0, .int .i64 0, .int .i64 0, .int .i64 0, .int .i64 0, .slice A 0 cap]) 27)).heap.size = w.heap.size + 1 := World.size_alloc ..
  rw [zA] at bB
  have HB := Lib.hid (And.intro (Below.step gA gB) bA)
  have HN := Lib.hid (number_ok (w.heap.size + 1) 2 2 [0, c] rfl (by decide) (by intro x hx; simp only [List.mem_cons, List.not_mem_nil, or_false] at hx; rcases hx with rfl | rfl; decide; omega) _ (fun q y hq => bB.cell q _ (by have : ([.int .i64 0, .int .i64 c] : List Value) = ([0, c] : List Int).map (Value.int .i64) := rfl; rw [this, List.getElem?_map, hq]; rfl)))
  have a1 : decide (k < 1) = false := decide_eq_false (by omega)
  have a2 : decide (4 < k) = false := decide_eq_false (by omega)
  have a3 : decide (t < 0) = false := decide_eq_false (by omega)
  have a4 : decide (1000000 < t) = false := decide_eq_false (by omega)
  have a5 : decide (cd < 0) = false := decide_eq_false (by omega)
  have c1 : (c != 0) = true := bne_iff_ne.2 (by omega)
  have k4 : (k == 4) = false := beq_eq_false_iff_ne.2 (by omega)
  have k2 : (k != 2) = false := by rw [ha.1]; rfl
  have d0 : (cd != 0) = false := by rw [ha.2]; rfl
  have HNQ := fun W => neqRecZ W
  clear gA gB bA bB zA hk ht hcd hc hc2 ha
  go_enter Tryz.func9, Tryz.ntmps9
  go_wp2_with fail
  refine HN.out.mono ?_
  rintro e1 w1 ⟨rfl, hw1⟩
  subst hw1
  have bz := HB.out.2
  have y0 := bz.cell 0 _ rfl
  have y1 := bz.cell 1 _ rfl
  have y2 := bz.cell 2 _ rfl
  have y3 := bz.cell 3 _ rfl
  have y4 := bz.cell 4 _ rfl
  have y5 := bz.cell 5 _ rfl
  have y6 := bz.cell 6 _ rfl
  have y7 := bz.cell 7 _ rfl
  have y8 := bz.cell 8 _ rfl
  have y9 := bz.cell 9 _ rfl
  have y10 := bz.cell 10 _ rfl
  have y11 := bz.cell 11 _ rfl
  have y12 := bz.cell 12 _ rfl
  clear bz
  go_wp2_with fail
  go_ret
  exact ⟨rfl, HB.out.1⟩
set_option maxRecDepth 100000 in
set_option maxHeartbeats 8000000 in
theorem right_10000 (k cd t i : Int) (A : Option Addr) (cap : Nat) (hk : 1 ≤ k ∧ k ≤ 4) (ht : 0 ≤ t ∧ t ≤ 1000000) (hcd : 0 ≤ cd) (hi : 1 ≤ i ∧ i ≤ 9999999) (hi2 : k ≤ 2) (w : World) : Calls Tryz.prog 9 #[.agg (List.toArray [.int .i64 k, .int .i64 cd, .int .i64 t, .int .i64 i, .int .i64 0, .bool false, .int .i64 0, .int .i64 0, .int .i64 0, .int .i64 0, .int .i64 0, .int .i64 0, .slice A 0 cap])] w fun e w' => e = .returned (.bool true) ∧ Below w.heap.size w w' := by
  have gA : Below w.heap.size w (w.alloc (.cells (List.toArray [.int .i64 k, .int .i64 cd, .int .i64 t, .int .i64 i, .int .i64 0, .bool false, .int .i64 0, .int .i64 0, .int .i64 0, .int .i64 0, .int .i64 0, .int .i64 0, .slice A 0 cap]) 27)) := by go_grown
  have gB : Below (w.alloc (.cells (List.toArray [.int .i64 k, .int .i64 cd, .int .i64 t, .int .i64 i, .int .i64 0, .bool false, .int .i64 0, .int .i64 0, .int .i64 0, .int .i64 0, .int .i64 0, .int .i64 0, .slice A 0 cap]) 27)).heap.size (w.alloc (.cells (List.toArray [.int .i64 k, .int .i64 cd, .int .i64 t, .int .i64 i, .int .i64 0, .bool false, .int .i64 0, .int .i64 0, .int .i64 0, .int .i64 0, .int .i64 0, .int .i64 0, .slice A 0 cap]) 27)) ((w.alloc (.cells (List.toArray [.int .i64 k, .int .i64 cd, .int .i64 t, .int .i64 i, .int .i64 0, .bool false, .int .i64 0, .int .i64 0, .int .i64 0, .int .i64 0, .int .i64 0, .int .i64 0, .slice A 0 cap]) 27)).alloc (.cells #[.int .i64 i, .int .i64 0] 3)) := by go_grown
  have bA := (Bl.new w [.int .i64 k, .int .i64 cd, .int .i64 t, .int .i64 i, .int .i64 0, .bool false, .int .i64 0, .int .i64 0, .int .i64 0, .int .i64 0, .int .i64 0, .int .i64 0, .slice A 0 cap] 27).below gB
  have bB := Bl.new (w.alloc (.cells (List.toArray [.int .i64 k, .int .i64 cd, .int .i64 t, .int .i64 i, .int .i64 0, .bool false, .int .i64 0, .int .i64 0, .int .i64 0, .int .i64 0, .int .i64 0, .int .i64 0, .slice A 0 cap]) 27)) [.int .i64 i, .int .i64 0] 3
  have zA : (w.alloc (.cells (List.toArray [.int .i64 k, .int .i64 cd, .int .i64 t, .int .i64 i, .int .i64 0, .bool false, .int .i64 0, .int .i64 0, .int .i64 0, .int .i64 0, .int .i64 0, .int .i64 0, .slice A 0 cap]) 27)).heap.size = w.heap.size + 1 := World.size_alloc ..
  rw [zA] at bB
  have HB := Lib.hid (And.intro (Below.step gA gB) bA)
  have HN := Lib.hid (number_ok (w.heap.size + 1) 2 2 [i, 0] rfl (by decide) (by intro x hx; simp only [List.mem_cons, List.not_mem_nil, or_false] at hx; rcases hx with rfl | rfl; omega; decide) _ (fun q y hq => bB.cell q _ (by have : ([.int .i64 i, .int .i64 0] : List Value) = ([i, 0] : List Int).map (Value.int .i64) := rfl; rw [this, List.getElem?_map, hq]; rfl)))
  have a1 : decide (k < 1) = false := decide_eq_false (by omega)
  have a2 : decide (4 < k) = false := decide_eq_false (by omega)
  have a3 : decide (t < 0) = false := decide_eq_false (by omega)
  have a4 : decide (1000000 < t) = false := decide_eq_false (by omega)
  have a5 : decide (cd < 0) = false := decide_eq_false (by omega)
  have i1 : (i != 0) = true := bne_iff_ne.2 (by omega)
  have k3 : (k == 3) = false := beq_eq_false_iff_ne.2 (by omega)
  have k4 : (k == 4) = false := beq_eq_false_iff_ne.2 (by omega)
  have HNQ := fun W => neqRecZ W
  clear gA gB bA bB zA hk ht hcd hi hi2
  go_enter Tryz.func9, Tryz.ntmps9
  go_wp2_with fail
  refine HN.out.mono ?_
  rintro e1 w1 ⟨rfl, hw1⟩
  subst hw1
  have bz := HB.out.2
  have y0 := bz.cell 0 _ rfl
  have y1 := bz.cell 1 _ rfl
  have y2 := bz.cell 2 _ rfl
  have y3 := bz.cell 3 _ rfl
  have y4 := bz.cell 4 _ rfl
  have y5 := bz.cell 5 _ rfl
  have y6 := bz.cell 6 _ rfl
  have y7 := bz.cell 7 _ rfl
  have y8 := bz.cell 8 _ rfl
  have y9 := bz.cell 9 _ rfl
  have y10 := bz.cell 10 _ rfl
  have y11 := bz.cell 11 _ rfl
  have y12 := bz.cell 12 _ rfl
  clear bz
  go_wp2_with fail
  go_ret
  exact ⟨rfl, HB.out.1⟩
set_option maxRecDepth 100000 in
set_option maxHeartbeats 8000000 in
theorem right_10100 (k cd t i : Int) (A : Option Addr) (cap : Nat) (hk : 1 ≤ k ∧ k ≤ 4) (ht : 0 ≤ t ∧ t ≤ 1000000) (hcd : 0 ≤ cd) (hi : 1 ≤ i ∧ i ≤ 9999999) (hi2 : k ≤ 2) (ha : k = 2 ∧ cd = 0) (w : World) : Calls Tryz.prog 9 #[.agg (List.toArray [.int .i64 k, .int .i64 cd, .int .i64 t, .int .i64 i, .int .i64 0, .bool true, .int .i64 0, .int .i64 0, .int .i64 0, .int .i64 0, .int .i64 0, .int .i64 0, .slice A 0 cap])] w fun e w' => e = .returned (.bool true) ∧ Below w.heap.size w w' := by
  have gA : Below w.heap.size w (w.alloc (.cells (List.toArray [.int .i64 k, .int .i64 cd, .int .i64 t, .int .i64 i, .int .i64 0, .bool true, .int .i64 0, .int .i64 0, .int .i64 0, .int .i64 0, .int .i64 0, .int .i64 0, .slice A 0 cap]) 27)) := by go_grown
  have gB : Below (w.alloc (.cells (List.toArray [.int .i64 k, .int .i64 cd, .int .i64 t, .int .i64 i, .int .i64 0, .bool true, .int .i64 0, .int .i64 0, .int .i64 0, .int .i64 0, .int .i64 0, .int .i64 0, .slice A 0 cap]) 27)).heap.size (w.alloc (.cells (List.toArray [.int .i64 k, .int .i64 cd, .int .i64 t, .int .i64 i, .int .i64 0, .bool true, .int .i64 0, .int .i64 0, .int .i64 0, .int .i64 0, .int .i64 0, .int .i64 0, .slice A 0 cap]) 27)) ((w.alloc (.cells (List.toArray [.int .i64 k, .int .i64 cd, .int .i64 t, .int .i64 i, .int .i64 0, .bool true, .int .i64 0, .int .i64 0, .int .i64 0, .int .i64 0, .int .i64 0, .int .i64 0, .slice A 0 cap]) 27)).alloc (.cells #[.int .i64 i, .int .i64 0] 3)) := by go_grown
  have bA := (Bl.new w [.int .i64 k, .int .i64 cd, .int .i64 t, .int .i64 i, .int .i64 0, .bool true, .int .i64 0, .int .i64 0, .int .i64 0, .int .i64 0, .int .i64 0, .int .i64 0, .slice A 0 cap] 27).below gB
  have bB := Bl.new (w.alloc (.cells (List.toArray [.int .i64 k, .int .i64 cd, .int .i64 t, .int .i64 i, .int .i64 0, .bool true, .int .i64 0, .int .i64 0, .int .i64 0, .int .i64 0, .int .i64 0, .int .i64 0, .slice A 0 cap]) 27)) [.int .i64 i, .int .i64 0] 3
  have zA : (w.alloc (.cells (List.toArray [.int .i64 k, .int .i64 cd, .int .i64 t, .int .i64 i, .int .i64 0, .bool true, .int .i64 0, .int .i64 0, .int .i64 0, .int .i64 0, .int .i64 0, .int .i64 0, .slice A 0 cap]) 27)).heap.size = w.heap.size + 1 := World.size_alloc ..
  rw [zA] at bB
  have HB := Lib.hid (And.intro (Below.step gA gB) bA)
  have HN := Lib.hid (number_ok (w.heap.size + 1) 2 2 [i, 0] rfl (by decide) (by intro x hx; simp only [List.mem_cons, List.not_mem_nil, or_false] at hx; rcases hx with rfl | rfl; omega; decide) _ (fun q y hq => bB.cell q _ (by have : ([.int .i64 i, .int .i64 0] : List Value) = ([i, 0] : List Int).map (Value.int .i64) := rfl; rw [this, List.getElem?_map, hq]; rfl)))
  have a1 : decide (k < 1) = false := decide_eq_false (by omega)
  have a2 : decide (4 < k) = false := decide_eq_false (by omega)
  have a3 : decide (t < 0) = false := decide_eq_false (by omega)
  have a4 : decide (1000000 < t) = false := decide_eq_false (by omega)
  have a5 : decide (cd < 0) = false := decide_eq_false (by omega)
  have i1 : (i != 0) = true := bne_iff_ne.2 (by omega)
  have k3 : (k == 3) = false := beq_eq_false_iff_ne.2 (by omega)
  have k4 : (k == 4) = false := beq_eq_false_iff_ne.2 (by omega)
  have k2 : (k != 2) = false := by rw [ha.1]; rfl
  have d0 : (cd != 0) = false := by rw [ha.2]; rfl
  have HNQ := fun W => neqRecZ W
  clear gA gB bA bB zA hk ht hcd hi hi2 ha
  go_enter Tryz.func9, Tryz.ntmps9
  go_wp2_with fail
  refine HN.out.mono ?_
  rintro e1 w1 ⟨rfl, hw1⟩
  subst hw1
  have bz := HB.out.2
  have y0 := bz.cell 0 _ rfl
  have y1 := bz.cell 1 _ rfl
  have y2 := bz.cell 2 _ rfl
  have y3 := bz.cell 3 _ rfl
  have y4 := bz.cell 4 _ rfl
  have y5 := bz.cell 5 _ rfl
  have y6 := bz.cell 6 _ rfl
  have y7 := bz.cell 7 _ rfl
  have y8 := bz.cell 8 _ rfl
  have y9 := bz.cell 9 _ rfl
  have y10 := bz.cell 10 _ rfl
  have y11 := bz.cell 11 _ rfl
  have y12 := bz.cell 12 _ rfl
  clear bz
  go_wp2_with fail
  go_ret
  exact ⟨rfl, HB.out.1⟩
set_option maxRecDepth 100000 in
set_option maxHeartbeats 8000000 in
theorem right_11000 (k cd t i c : Int) (A : Option Addr) (cap : Nat) (hk : 1 ≤ k ∧ k ≤ 4) (ht : 0 ≤ t ∧ t ≤ 1000000) (hcd : 0 ≤ cd) (hi : 1 ≤ i ∧ i ≤ 9999999) (hi2 : k ≤ 2) (hc : 1 ≤ c ∧ c ≤ 9999999) (hc2 : k ≤ 3) (w : World) : Calls Tryz.prog 9 #[.agg (List.toArray [.int .i64 k, .int .i64 cd, .int .i64 t, .int .i64 i, .int .i64 c, .bool false, .int .i64 0, .int .i64 0, .int .i64 0, .int .i64 0, .int .i64 0, .int .i64 0, .slice A 0 cap])] w fun e w' => e = .returned (.bool true) ∧ Below w.heap.size w w' := by
  have gA : Below w.heap.size w (w.alloc (.cells (List.toArray [.int .i64 k, .int .i64 cd, .int .i64 t, .int .i64 i, .int .i64 c, .bool false, .int .i64 0, .int .i64 0, .int .i64 0, .int .i64 0, .int .i64 0, .int .i64 0, .slice A 0 cap]) 27)) := by go_grown
  have gB : Below (w.alloc (.cells (List.toArray [.int .i64 k, .int .i64 cd, .int .i64 t, .int .i64 i, .int .i64 c, .bool false, .int .i64 0, .int .i64 0, .int .i64 0, .int .i64 0, .int .i64 0, .int .i64 0, .slice A 0 cap]) 27)).heap.size (w.alloc (.cells (List.toArray [.int .i64 k, .int .i64 cd, .int .i64 t, .int .i64 i, .int .i64 c, .bool false, .int .i64 0, .int .i64 0, .int .i64 0, .int .i64 0, .int .i64 0, .int .i64 0, .slice A 0 cap]) 27)) ((w.alloc (.cells (List.toArray [.int .i64 k, .int .i64 cd, .int .i64 t, .int .i64 i, .int .i64 c, .bool false, .int .i64 0, .int .i64 0, .int .i64 0, .int .i64 0, .int .i64 0, .int .i64 0, .slice A 0 cap]) 27)).alloc (.cells #[.int .i64 i, .int .i64 c] 3)) := by go_grown
  have bA := (Bl.new w [.int .i64 k, .int .i64 cd, .int .i64 t, .int .i64 i, .int .i64 c, .bool false, .int .i64 0, .int .i64 0, .int .i64 0, .int .i64 0, .int .i64 0, .int .i64 0, .slice A 0 cap] 27).below gB
  have bB := Bl.new (w.alloc (.cells (List.toArray [.int .i64 k, .int .i64 cd, .int .i64 t, .int .i64 i, .int .i64 c, .bool false, .int .i64 0, .int .i64 0, .int .i64 0, .int .i64 0, .int .i64 0, .int .i64 0, .slice A 0 cap]) 27)) [.int .i64 i, .int .i64 c] 3
  have zA : (w.alloc (.cells (List.toArray [.int .i64 k, .int .i64 cd, .int .i64 t, .int .i64 i, .int .i64 c, .bool false, .int .i64 0, .int .i64 0, .int .i64 0, .int .i64 0, .int .i64 0, .int .i64 0, .slice A 0 cap]) 27)).heap.size = w.heap.size + 1 := World.size_alloc ..
  rw [zA] at bB
  have HB := Lib.hid (And.intro (Below.step gA gB) bA)
  have HN := Lib.hid (number_ok (w.heap.size + 1) 2 2 [i, c] rfl (by decide) (by intro x hx; simp only [List.mem_cons, List.not_mem_nil, or_false] at hx; rcases hx with rfl | rfl; omega; omega) _ (fun q y hq => bB.cell q _ (by have : ([.int .i64 i, .int .i64 c] : List Value) = ([i, c] : List Int).map (Value.int .i64) := rfl; rw [this, List.getElem?_map, hq]; rfl)))
  have a1 : decide (k < 1) = false := decide_eq_false (by omega)
  have a2 : decide (4 < k) = false := decide_eq_false (by omega)
  have a3 : decide (t < 0) = false := decide_eq_false (by omega)
  have a4 : decide (1000000 < t) = false := decide_eq_false (by omega)
  have a5 : decide (cd < 0) = false := decide_eq_false (by omega)
  have i1 : (i != 0) = true := bne_iff_ne.2 (by omega)
  have c1 : (c != 0) = true := bne_iff_ne.2 (by omega)
  have k3 : (k == 3) = false := beq_eq_false_iff_ne.2 (by omega)
  have k4 : (k == 4) = false := beq_eq_false_iff_ne.2 (by omega)
  have HNQ := fun W => neqRecZ W
  clear gA gB bA bB zA hk ht hcd hi hi2 hc hc2
  go_enter Tryz.func9, Tryz.ntmps9
  go_wp2_with fail
  refine HN.out.mono ?_
  rintro e1 w1 ⟨rfl, hw1⟩
  subst hw1
  have bz := HB.out.2
  have y0 := bz.cell 0 _ rfl
  have y1 := bz.cell 1 _ rfl
  have y2 := bz.cell 2 _ rfl
  have y3 := bz.cell 3 _ rfl
  have y4 := bz.cell 4 _ rfl
  have y5 := bz.cell 5 _ rfl
  have y6 := bz.cell 6 _ rfl
  have y7 := bz.cell 7 _ rfl
  have y8 := bz.cell 8 _ rfl
  have y9 := bz.cell 9 _ rfl
  have y10 := bz.cell 10 _ rfl
  have y11 := bz.cell 11 _ rfl
  have y12 := bz.cell 12 _ rfl
  clear bz
  go_wp2_with fail
  go_ret
  exact ⟨rfl, HB.out.1⟩
set_option maxRecDepth 100000 in
set_option maxHeartbeats 8000000 in
theorem right_11100 (k cd t i c : Int) (A : Option Addr) (cap : Nat) (hk : 1 ≤ k ∧ k ≤ 4) (ht : 0 ≤ t ∧ t ≤ 1000000) (hcd : 0 ≤ cd) (hi : 1 ≤ i ∧ i ≤ 9999999) (hi2 : k ≤ 2) (hc : 1 ≤ c ∧ c ≤ 9999999) (hc2 : k ≤ 3) (ha : k = 2 ∧ cd = 0) (w : World) : Calls Tryz.prog 9 #[.agg (List.toArray [.int .i64 k, .int .i64 cd, .int .i64 t, .int .i64 i, .int .i64 c, .bool true, .int .i64 0, .int .i64 0, .int .i64 0, .int .i64 0, .int .i64 0, .int .i64 0, .slice A 0 cap])] w fun e w' => e = .returned (.bool true) ∧ Below w.heap.size w w' := by
  have gA : Below w.heap.size w (w.alloc (.cells (List.toArray [.int .i64 k, .int .i64 cd, .int .i64 t, .int .i64 i, .int .i64 c, .bool true, .int .i64 0, .int .i64 0, .int .i64 0, .int .i64 0, .int .i64 0, .int .i64 0, .slice A 0 cap]) 27)) := by go_grown
  have gB : Below (w.alloc (.cells (List.toArray [.int .i64 k, .int .i64 cd, .int .i64 t, .int .i64 i, .int .i64 c, .bool true, .int .i64 0, .int .i64 0, .int .i64 0, .int .i64 0, .int .i64 0, .int .i64 0, .slice A 0 cap]) 27)).heap.size (w.alloc (.cells (List.toArray [.int .i64 k, .int .i64 cd, .int .i64 t, .int .i64 i, .int .i64 c, .bool true, .int .i64 0, .int .i64 0, .int .i64 0, .int .i64 0, .int .i64 0, .int .i64 0, .slice A 0 cap]) 27)) ((w.alloc (.cells (List.toArray [.int .i64 k, .int .i64 cd, .int .i64 t, .int .i64 i, .int .i64 c, .bool true, .int .i64 0, .int .i64 0, .int .i64 0, .int .i64 0, .int .i64 0, .int .i64 0, .slice A 0 cap]) 27)).alloc (.cells #[.int .i64 i, .int .i64 c] 3)) := by go_grown
  have bA := (Bl.new w [.int .i64 k, .int .i64 cd, .int .i64 t, .int .i64 i, .int .i64 c, .bool true, .int .i64 0, .int .i64 0, .int .i64 0, .int .i64 0, .int .i64 0, .int .i64 0, .slice A 0 cap] 27).below gB
  have bB := Bl.new (w.alloc (.cells (List.toArray [.int .i64 k, .int .i64 cd, .int .i64 t, .int .i64 i, .int .i64 c, .bool true, .int .i64 0, .int .i64 0, .int .i64 0, .int .i64 0, .int .i64 0, .int .i64 0, .slice A 0 cap]) 27)) [.int .i64 i, .int .i64 c] 3
  have zA : (w.alloc (.cells (List.toArray [.int .i64 k, .int .i64 cd, .int .i64 t, .int .i64 i, .int .i64 c, .bool true, .int .i64 0, .int .i64 0, .int .i64 0, .int .i64 0, .int .i64 0, .int .i64 0, .slice A 0 cap]) 27)).heap.size = w.heap.size + 1 := World.size_alloc ..
  rw [zA] at bB
  have HB := Lib.hid (And.intro (Below.step gA gB) bA)
  have HN := Lib.hid (number_ok (w.heap.size + 1) 2 2 [i, c] rfl (by decide) (by intro x hx; simp only [List.mem_cons, List.not_mem_nil, or_false] at hx; rcases hx with rfl | rfl; omega; omega) _ (fun q y hq => bB.cell q _ (by have : ([.int .i64 i, .int .i64 c] : List Value) = ([i, c] : List Int).map (Value.int .i64) := rfl; rw [this, List.getElem?_map, hq]; rfl)))
  have a1 : decide (k < 1) = false := decide_eq_false (by omega)
  have a2 : decide (4 < k) = false := decide_eq_false (by omega)
  have a3 : decide (t < 0) = false := decide_eq_false (by omega)
  have a4 : decide (1000000 < t) = false := decide_eq_false (by omega)
  have a5 : decide (cd < 0) = false := decide_eq_false (by omega)
  have i1 : (i != 0) = true := bne_iff_ne.2 (by omega)
  have c1 : (c != 0) = true := bne_iff_ne.2 (by omega)
  have k3 : (k == 3) = false := beq_eq_false_iff_ne.2 (by omega)
  have k4 : (k == 4) = false := beq_eq_false_iff_ne.2 (by omega)
  have k2 : (k != 2) = false := by rw [ha.1]; rfl
  have d0 : (cd != 0) = false := by rw [ha.2]; rfl
  have HNQ := fun W => neqRecZ W
  clear gA gB bA bB zA hk ht hcd hi hi2 hc hc2 ha
  go_enter Tryz.func9, Tryz.ntmps9
  go_wp2_with fail
  refine HN.out.mono ?_
  rintro e1 w1 ⟨rfl, hw1⟩
  subst hw1
  have bz := HB.out.2
  have y0 := bz.cell 0 _ rfl
  have y1 := bz.cell 1 _ rfl
  have y2 := bz.cell 2 _ rfl
  have y3 := bz.cell 3 _ rfl
  have y4 := bz.cell 4 _ rfl
  have y5 := bz.cell 5 _ rfl
  have y6 := bz.cell 6 _ rfl
  have y7 := bz.cell 7 _ rfl
  have y8 := bz.cell 8 _ rfl
  have y9 := bz.cell 9 _ rfl
  have y10 := bz.cell 10 _ rfl
  have y11 := bz.cell 11 _ rfl
  have y12 := bz.cell 12 _ rfl
  clear bz
  go_wp2_with fail
  go_ret
  exact ⟨rfl, HB.out.1⟩
set_option maxRecDepth 100000 in
set_option maxHeartbeats 8000000 in
theorem right_00010 (k cd t r0 r1 r2 r3 : Int) (A : Option Addr) (cap : Nat) (hk : 1 ≤ k ∧ k ≤ 4) (ht : 0 ≤ t ∧ t ≤ 1000000) (hcd : 0 ≤ cd) (hr : k = 3 ∧ cd = 0) (h0 : 1 ≤ r0 ∧ r0 ≤ 5) (h1 : 0 ≤ r1 ∧ r1 ≤ 9999999) (h2 : 0 ≤ r2 ∧ r2 ≤ 9999999) (h3 : 0 ≤ r3 ∧ r3 ≤ 9999999) (w : World) : Calls Tryz.prog 9 #[.agg (List.toArray [.int .i64 k, .int .i64 cd, .int .i64 t, .int .i64 0, .int .i64 0, .bool false, .int .i64 r0, .int .i64 r1, .int .i64 r2, .int .i64 r3, .int .i64 0, .int .i64 0, .slice A 0 cap])] w fun e w' => e = .returned (.bool true) ∧ Below w.heap.size w w' := by
  have gA : Below w.heap.size w (w.alloc (.cells (List.toArray [.int .i64 k, .int .i64 cd, .int .i64 t, .int .i64 0, .int .i64 0, .bool false, .int .i64 r0, .int .i64 r1, .int .i64 r2, .int .i64 r3, .int .i64 0, .int .i64 0, .slice A 0 cap]) 27)) := by go_grown
  have gB : Below (w.alloc (.cells (List.toArray [.int .i64 k, .int .i64 cd, .int .i64 t, .int .i64 0, .int .i64 0, .bool false, .int .i64 r0, .int .i64 r1, .int .i64 r2, .int .i64 r3, .int .i64 0, .int .i64 0, .slice A 0 cap]) 27)).heap.size (w.alloc (.cells (List.toArray [.int .i64 k, .int .i64 cd, .int .i64 t, .int .i64 0, .int .i64 0, .bool false, .int .i64 r0, .int .i64 r1, .int .i64 r2, .int .i64 r3, .int .i64 0, .int .i64 0, .slice A 0 cap]) 27)) ((w.alloc (.cells (List.toArray [.int .i64 k, .int .i64 cd, .int .i64 t, .int .i64 0, .int .i64 0, .bool false, .int .i64 r0, .int .i64 r1, .int .i64 r2, .int .i64 r3, .int .i64 0, .int .i64 0, .slice A 0 cap]) 27)).alloc (.cells #[.int .i64 0, .int .i64 0] 3)) := by go_grown
  have bA := (Bl.new w [.int .i64 k, .int .i64 cd, .int .i64 t, .int .i64 0, .int .i64 0, .bool false, .int .i64 r0, .int .i64 r1, .int .i64 r2, .int .i64 r3, .int .i64 0, .int .i64 0, .slice A 0 cap] 27).below gB
  have bB := Bl.new (w.alloc (.cells (List.toArray [.int .i64 k, .int .i64 cd, .int .i64 t, .int .i64 0, .int .i64 0, .bool false, .int .i64 r0, .int .i64 r1, .int .i64 r2, .int .i64 r3, .int .i64 0, .int .i64 0, .slice A 0 cap]) 27)) [.int .i64 0, .int .i64 0] 3
  have zA : (w.alloc (.cells (List.toArray [.int .i64 k, .int .i64 cd, .int .i64 t, .int .i64 0, .int .i64 0, .bool false, .int .i64 r0, .int .i64 r1, .int .i64 r2, .int .i64 r3, .int .i64 0, .int .i64 0, .slice A 0 cap]) 27)).heap.size = w.heap.size + 1 := World.size_alloc ..
  rw [zA] at bB
  have HB := Lib.hid (And.intro (Below.step gA gB) bA)
  have HN := Lib.hid (number_ok (w.heap.size + 1) 2 2 [0, 0] rfl (by decide) (by intro x hx; simp only [List.mem_cons, List.not_mem_nil, or_false] at hx; rcases hx with rfl | rfl; decide; decide) _ (fun q y hq => bB.cell q _ (by have : ([.int .i64 0, .int .i64 0] : List Value) = ([0, 0] : List Int).map (Value.int .i64) := rfl; rw [this, List.getElem?_map, hq]; rfl)))
  have a1 : decide (k < 1) = false := decide_eq_false (by omega)
  have a2 : decide (4 < k) = false := decide_eq_false (by omega)
  have a3 : decide (t < 0) = false := decide_eq_false (by omega)
  have a4 : decide (1000000 < t) = false := decide_eq_false (by omega)
  have a5 : decide (cd < 0) = false := decide_eq_false (by omega)
  have k3b : (k != 3) = false := by rw [hr.1]; rfl
  have d0 : (cd != 0) = false := by rw [hr.2]; rfl
  have HRR := Lib.hid (fun W => rrec_ok r0 r1 r2 r3 h0 h1 h2 h3 W)
  have HNQ := fun W => neqRecN r0 r1 r2 r3 0 0 h0.1 W
  clear gA gB bA bB zA hk ht hcd hr h0 h1 h2 h3
  go_enter Tryz.func9, Tryz.ntmps9
  go_wp2_with fail
  refine HN.out.mono ?_
  rintro e1 w1 ⟨rfl, hw1⟩
  subst hw1
  have bz := HB.out.2
  have y0 := bz.cell 0 _ rfl
  have y1 := bz.cell 1 _ rfl
  have y2 := bz.cell 2 _ rfl
  have y3 := bz.cell 3 _ rfl
  have y4 := bz.cell 4 _ rfl
  have y5 := bz.cell 5 _ rfl
  have y6 := bz.cell 6 _ rfl
  have y7 := bz.cell 7 _ rfl
  have y8 := bz.cell 8 _ rfl
  have y9 := bz.cell 9 _ rfl
  have y10 := bz.cell 10 _ rfl
  have y11 := bz.cell 11 _ rfl
  have y12 := bz.cell 12 _ rfl
  clear bz
  go_wp2_with fail
  refine (HRR.out _).mono ?_
  rintro e2 w2 ⟨rfl, hb2⟩
  have HB2 := Lib.hid (And.intro (Below.step HB.out.1 hb2) (HB.out.2.below hb2))
  clear y0
  have y0 := HB2.out.2.cell 0 _ rfl
  clear y1
  have y1 := HB2.out.2.cell 1 _ rfl
  clear y2
  have y2 := HB2.out.2.cell 2 _ rfl
  clear y3
  have y3 := HB2.out.2.cell 3 _ rfl
  clear y4
  have y4 := HB2.out.2.cell 4 _ rfl
  clear y5
  have y5 := HB2.out.2.cell 5 _ rfl
  clear y6
  have y6 := HB2.out.2.cell 6 _ rfl
  clear y7
  have y7 := HB2.out.2.cell 7 _ rfl
  clear y8
  have y8 := HB2.out.2.cell 8 _ rfl
  clear y9
  have y9 := HB2.out.2.cell 9 _ rfl
  clear y10
  have y10 := HB2.out.2.cell 10 _ rfl
  clear y11
  have y11 := HB2.out.2.cell 11 _ rfl
  clear y12
  have y12 := HB2.out.2.cell 12 _ rfl
  clear hb2
  go_wp2_with fail
  go_ret
  exact ⟨rfl, HB2.out.1⟩
set_option maxRecDepth 100000 in
set_option maxHeartbeats 8000000 in
theorem right_01010 (k cd t c r0 r1 r2 r3 : Int) (A : Option Addr) (cap : Nat) (hk : 1 ≤ k ∧ k ≤ 4) (ht : 0 ≤ t ∧ t ≤ 1000000) (hcd : 0 ≤ cd) (hc : 1 ≤ c ∧ c ≤ 9999999) (hc2 : k ≤ 3) (hr : k = 3 ∧ cd = 0) (h0 : 1 ≤ r0 ∧ r0 ≤ 5) (h1 : 0 ≤ r1 ∧ r1 ≤ 9999999) (h2 : 0 ≤ r2 ∧ r2 ≤ 9999999) (h3 : 0 ≤ r3 ∧ r3 ≤ 9999999) (w : World) : Calls Tryz.prog 9 #[.agg (List.toArray [.int .i64 k, .int .i64 cd, .int .i64 t, .int .i64 0, .int .i64 c, .bool false, .int .i64 r0, .int .i64 r1, .int .i64 r2, .int .i64 r3, .int .i64 0, .int .i64 0, .slice A 0 cap])] w fun e w' => e = .returned (.bool true) ∧ Below w.heap.size w w' := by
  have gA : Below w.heap.size w (w.alloc (.cells (List.toArray [.int .i64 k, .int .i64 cd, .int .i64 t, .int .i64 0, .int .i64 c, .bool false, .int .i64 r0, .int .i64 r1, .int .i64 r2, .int .i64 r3, .int .i64 0, .int .i64 0, .slice A 0 cap]) 27)) := by go_grown
  have gB : Below (w.alloc (.cells (List.toArray [.int .i64 k, .int .i64 cd, .int .i64 t, .int .i64 0, .int .i64 c, .bool false, .int .i64 r0, .int .i64 r1, .int .i64 r2, .int .i64 r3, .int .i64 0, .int .i64 0, .slice A 0 cap]) 27)).heap.size (w.alloc (.cells (List.toArray [.int .i64 k, .int .i64 cd, .int .i64 t, .int .i64 0, .int .i64 c, .bool false, .int .i64 r0, .int .i64 r1, .int .i64 r2, .int .i64 r3, .int .i64 0, .int .i64 0, .slice A 0 cap]) 27)) ((w.alloc (.cells (List.toArray [.int .i64 k, .int .i64 cd, .int .i64 t, .int .i64 0, .int .i64 c, .bool false, .int .i64 r0, .int .i64 r1, .int .i64 r2, .int .i64 r3, .int .i64 0, .int .i64 0, .slice A 0 cap]) 27)).alloc (.cells #[.int .i64 0, .int .i64 c] 3)) := by go_grown
  have bA := (Bl.new w [.int .i64 k, .int .i64 cd, .int .i64 t, .int .i64 0, .int .i64 c, .bool false, .int .i64 r0, .int .i64 r1, .int .i64 r2, .int .i64 r3, .int .i64 0, .int .i64 0, .slice A 0 cap] 27).below gB
  have bB := Bl.new (w.alloc (.cells (List.toArray [.int .i64 k, .int .i64 cd, .int .i64 t, .int .i64 0, .int .i64 c, .bool false, .int .i64 r0, .int .i64 r1, .int .i64 r2, .int .i64 r3, .int .i64 0, .int .i64 0, .slice A 0 cap]) 27)) [.int .i64 0, .int .i64 c] 3
  have zA : (w.alloc (.cells (List.toArray [.int .i64 k, .int .i64 cd, .int .i64 t, .int .i64 0, .int .i64 c, .bool false, .int .i64 r0, .int .i64 r1, .int .i64 r2, .int .i64 r3, .int .i64 0, .int .i64 0, .slice A 0 cap]) 27)).heap.size = w.heap.size + 1 := World.size_alloc ..
  rw [zA] at bB
  have HB := Lib.hid (And.intro (Below.step gA gB) bA)
  have HN := Lib.hid (number_ok (w.heap.size + 1) 2 2 [0, c] rfl (by decide) (by intro x hx; simp only [List.mem_cons, List.not_mem_nil, or_false] at hx; rcases hx with rfl | rfl; decide; omega) _ (fun q y hq => bB.cell q _ (by have : ([.int .i64 0, .int .i64 c] : List Value) = ([0, c] : List Int).map (Value.int .i64) := rfl; rw [this, List.getElem?_map, hq]; rfl)))
  have a1 : decide (k < 1) = false := decide_eq_false (by omega)
  have a2 : decide (4 < k) = false := decide_eq_false (by omega)
  have a3 : decide (t < 0) = false := decide_eq_false (by omega)
  have a4 : decide (1000000 < t) = false := decide_eq_false (by omega)
  have a5 : decide (cd < 0) = false := decide_eq_false (by omega)
  have c1 : (c != 0) = true := bne_iff_ne.2 (by omega)
  have k4 : (k == 4) = false := beq_eq_false_iff_ne.2 (by omega)
  have k3b : (k != 3) = false := by rw [hr.1]; rfl
  have d0 : (cd != 0) = false := by rw [hr.2]; rfl
  have HRR := Lib.hid (fun W => rrec_ok r0 r1 r2 r3 h0 h1 h2 h3 W)
  have HNQ := fun W => neqRecN r0 r1 r2 r3 0 0 h0.1 W
  clear gA gB bA bB zA hk ht hcd hc hc2 hr h0 h1 h2 h3
  go_enter Tryz.func9, Tryz.ntmps9
  go_wp2_with fail
  refine HN.out.mono ?_
  rintro e1 w1 ⟨rfl, hw1⟩
  subst hw1
  have bz := HB.out.2
  have y0 := bz.cell 0 _ rfl
  have y1 := bz.cell 1 _ rfl
  have y2 := bz.cell 2 _ rfl
  have y3 := bz.cell 3 _ rfl
  have y4 := bz.cell 4 _ rfl
  have y5 := bz.cell 5 _ rfl
  have y6 := bz.cell 6 _ rfl
  have y7 := bz.cell 7 _ rfl
  have y8 := bz.cell 8 _ rfl
  have y9 := bz.cell 9 _ rfl
  have y10 := bz.cell 10 _ rfl
  have y11 := bz.cell 11 _ rfl
  have y12 := bz.cell 12 _ rfl
  clear bz
  go_wp2_with fail
  refine (HRR.out _).mono ?_
  rintro e2 w2 ⟨rfl, hb2⟩
  have HB2 := Lib.hid (And.intro (Below.step HB.out.1 hb2) (HB.out.2.below hb2))
  clear y0
  have y0 := HB2.out.2.cell 0 _ rfl
  clear y1
  have y1 := HB2.out.2.cell 1 _ rfl
  clear y2
  have y2 := HB2.out.2.cell 2 _ rfl
  clear y3
  have y3 := HB2.out.2.cell 3 _ rfl
  clear y4
  have y4 := HB2.out.2.cell 4 _ rfl
  clear y5
  have y5 := HB2.out.2.cell 5 _ rfl
  clear y6
  have y6 := HB2.out.2.cell 6 _ rfl
  clear y7
  have y7 := HB2.out.2.cell 7 _ rfl
  clear y8
  have y8 := HB2.out.2.cell 8 _ rfl
  clear y9
  have y9 := HB2.out.2.cell 9 _ rfl
  clear y10
  have y10 := HB2.out.2.cell 10 _ rfl
  clear y11
  have y11 := HB2.out.2.cell 11 _ rfl
  clear y12
  have y12 := HB2.out.2.cell 12 _ rfl
  clear hb2
  go_wp2_with fail
  go_ret
  exact ⟨rfl, HB2.out.1⟩
set_option maxRecDepth 100000 in
set_option maxHeartbeats 8000000 in
theorem right_00001 (k cd t : Int) (A : Option Addr) (L : List Lk) (cap : Nat) (hk : 1 ≤ k ∧ k ≤ 4) (ht : 0 ≤ t ∧ t ≤ 1000000) (hcd : 0 ≤ cd) (hl : k = 4 ∧ cd = 0) (hl0 : 0 < L.length) (hl1 : L.length ≤ 1000) (hlr : ∀ x ∈ L, lkR x = true) (w : World) (hL : LkAt A L w) : Calls Tryz.prog 9 #[.agg (List.toArray [.int .i64 k, .int .i64 cd, .int .i64 t, .int .i64 0, .int .i64 0, .bool false, .int .i64 0, .int .i64 0, .int .i64 0, .int .i64 0, .int .i64 0, .int .i64 0, .slice A L.length cap])] w fun e w' => e = .returned (.bool true) ∧ Below w.heap.size w w' := by
  have gA : Below w.heap.size w (w.alloc (.cells (List.toArray [.int .i64 k, .int .i64 cd, .int .i64 t, .int .i64 0, .int .i64 0, .bool false, .int .i64 0, .int .i64 0, .int .i64 0, .int .i64 0, .int .i64 0, .int .i64 0, .slice A L.length cap]) 27)) := by go_grown
  have gB : Below (w.alloc (.cells (List.toArray [.int .i64 k, .int .i64 cd, .int .i64 t, .int .i64 0, .int .i64 0, .bool false, .int .i64 0, .int .i64 0, .int .i64 0, .int .i64 0, .int .i64 0, .int .i64 0, .slice A L.length cap]) 27)).heap.size (w.alloc (.cells (List.toArray [.int .i64 k, .int .i64 cd, .int .i64 t, .int .i64 0, .int .i64 0, .bool false, .int .i64 0, .int .i64 0, .int .i64 0, .int .i64 0, .int .i64 0, .int .i64 0, .slice A L.length cap]) 27)) ((w.alloc (.cells (List.toArray [.int .i64 k, .int .i64 cd, .int .i64 t, .int .i64 0, .int .i64 0, .bool false, .int .i64 0, .int .i64 0, .int .i64 0, .int .i64 0, .int .i64 0, .int .i64 0, .slice A L.length cap]) 27)).alloc (.cells #[.int .i64 0, .int .i64 0] 3)) := by go_grown
  have bA := (Bl.new w [.int .i64 k, .int .i64 cd, .int .i64 t, .int .i64 0, .int .i64 0, .bool false, .int .i64 0, .int .i64 0, .int .i64 0, .int .i64 0, .int .i64 0, .int .i64 0, .slice A L.length cap] 27).below gB
  have bB := Bl.new (w.alloc (.cells (List.toArray [.int .i64 k, .int .i64 cd, .int .i64 t, .int .i64 0, .int .i64 0, .bool false, .int .i64 0, .int .i64 0, .int .i64 0, .int .i64 0, .int .i64 0, .int .i64 0, .slice A L.length cap]) 27)) [.int .i64 0, .int .i64 0] 3
  have zA : (w.alloc (.cells (List.toArray [.int .i64 k, .int .i64 cd, .int .i64 t, .int .i64 0, .int .i64 0, .bool false, .int .i64 0, .int .i64 0, .int .i64 0, .int .i64 0, .int .i64 0, .int .i64 0, .slice A L.length cap]) 27)).heap.size = w.heap.size + 1 := World.size_alloc ..
  rw [zA] at bB
  have HB := Lib.hid (And.intro (Below.step gA gB) bA)
  have HN := Lib.hid (number_ok (w.heap.size + 1) 2 2 [0, 0] rfl (by decide) (by intro x hx; simp only [List.mem_cons, List.not_mem_nil, or_false] at hx; rcases hx with rfl | rfl; decide; decide) _ (fun q y hq => bB.cell q _ (by have : ([.int .i64 0, .int .i64 0] : List Value) = ([0, 0] : List Int).map (Value.int .i64) := rfl; rw [this, List.getElem?_map, hq]; rfl)))
  have a1 : decide (k < 1) = false := decide_eq_false (by omega)
  have a2 : decide (4 < k) = false := decide_eq_false (by omega)
  have a3 : decide (t < 0) = false := decide_eq_false (by omega)
  have a4 : decide (1000000 < t) = false := decide_eq_false (by omega)
  have a5 : decide (cd < 0) = false := decide_eq_false (by omega)
  have HNQ := fun W => neqRecZ W
  have k4b : (k == 4) = true := by rw [hl.1]; rfl
  have d0b : (cd == 0) = true := by rw [hl.2]; rfl
  have n0 : ((L.length : Int) == 0) = false := beq_eq_false_iff_ne.2 (by omega)
  have HLK := Lib.hid (fun W h => rlooks_ok A L cap hl1 hlr W h)
  have HL := Lib.hid hL
  clear gA gB bA bB zA hk ht hcd hl hl0 hl1 hlr hL
  go_enter Tryz.func9, Tryz.ntmps9
  go_wp2_with fail
  refine HN.out.mono ?_
  rintro e1 w1 ⟨rfl, hw1⟩
  subst hw1
  have bz := HB.out.2
  have y0 := bz.cell 0 _ rfl
  have y1 := bz.cell 1 _ rfl
  have y2 := bz.cell 2 _ rfl
  have y3 := bz.cell 3 _ rfl
  have y4 := bz.cell 4 _ rfl
  have y5 := bz.cell 5 _ rfl
  have y6 := bz.cell 6 _ rfl
  have y7 := bz.cell 7 _ rfl
  have y8 := bz.cell 8 _ rfl
  have y9 := bz.cell 9 _ rfl
  have y10 := bz.cell 10 _ rfl
  have y11 := bz.cell 11 _ rfl
  have y12 := bz.cell 12 _ rfl
  clear bz
  go_wp2_with fail
  refine (HLK.out _ (HL.out.below HB.out.1)).mono ?_
  rintro e2 w2 ⟨rfl, hb2⟩
  have HB2 := Lib.hid (Below.step HB.out.1 hb2)
  clear hb2
  go_wp2_with fail
  go_ret
  exact ⟨rfl, HB2.out⟩

end Go.Proofs.YtinciphhoieonaaGreatDoor

/-
  Texts of the machine of pairs, part 6.
-/
import Derived.Laws.BitsAllLaws
import Derived.Laws.BitsLemmas
import Derived.Deep.RegionLaw
import Derived.Test.YtmjkhefgpobinaaM1
import Derived.Test.YtmjkhefgpobinaaM3
import Derived.Test.YtmjkhefgpobinaaM4
import Derived.Test.YtmjkhefgpobinaaM5
namespace Go.Proofs.Ytmjkhefgpobinaa
open Go.ChangeShapes Go.WideShapes Go.ChangeAt Go.RowKit
def cz (k fl g l f : Int) : Nat → Int
  | 0 => k | 1 => fl | 2 => g | 3 => l | 4 => f | _ => 0
def FitsC (z : Nat → Int) : Prop := ∀ k, k < 5 → 0 ≤ z k ∧ z k < 2 ^ (shc (k + 1) - shc k).toNat
theorem keepWC {B : Nat} {v0 v2 v3 v4 : Value} {wx wy : World} (h : wx.cell? ⟨B, 0, none⟩ = some v0 ∧ wx.cell? ⟨B, 2, none⟩ = some v2 ∧ wx.cell? ⟨B, 3, none⟩ = some v3 ∧ wx.cell? ⟨B, 4, none⟩ = some v4) (hs : B < wx.heap.size) (hb : Below wx.heap.size wx wy) : wy.cell? ⟨B, 0, none⟩ = some v0 ∧ wy.cell? ⟨B, 2, none⟩ = some v2 ∧ wy.cell? ⟨B, 3, none⟩ = some v3 ∧ wy.cell? ⟨B, 4, none⟩ = some v4 := by
  have e : ∀ o, wy.cell? ⟨B, o, none⟩ = wx.cell? ⟨B, o, none⟩ := fun o => hb.cell (p := ⟨B, o, none⟩) hs
  obtain ⟨c0, c2, c3, c4⟩ := h
  exact ⟨(e 0).trans c0, (e 2).trans c2, (e 3).trans c3, (e 4).trans c4⟩
set_option maxRecDepth 100000 in
set_option maxHeartbeats 4000000 in
theorem wordC_ok_true (k g l f : Int) (w : World) (h : k ≤ 8) (hb : ∀ j, j < 5 → -9223372036854775808 ≤ (cz k 1 g l f) j ∧ (cz k 1 g l f) j ≤ 9223372036854775807) (hf : FitsC (cz k 1 g l f)) :
    Calls Try.prog 50 #[.agg #[.int .i64 k, .bool true, .int .i64 g, .int .i64 l, .int .i64 f]] w (fun e w' => e = .returned (.tuple #[.int .u64 (word shc (cz k 1 g l f) 5), .nilIface]) ∧ Below w.heap.size w w') := by
  have HB := Lib.hid hb
  have HP := Lib.hid (fun (cs : Array Value) (hL : Lay cs 5 shc) (A : Option Addr) (cap : Nat) (W : World) (hR : RowI W A 5 (cz k 1 g l f)) => show Calls Try.prog 71 #[.agg cs, .slice A 5 cap] W (fun e w' => e = .returned (.tuple #[.int .u64 (word shc (cz k 1 g l f) 5), .nilIface]) ∧ Below W.heap.size W w') from pack_ok hL shc_steps A cap W hR hf)
  clear hb hf
  have hS0 : (w.alloc (Obj.cells #[.int .i64 k, .bool true, .int .i64 g, .int .i64 l, .int .i64 f] 42)).drew.cell? ⟨w.heap.size, 0, none⟩ = some (.int .i64 k) ∧ (w.alloc (Obj.cells #[.int .i64 k, .bool true, .int .i64 g, .int .i64 l, .int .i64 f] 42)).drew.cell? ⟨w.heap.size, 2, none⟩ = some (.int .i64 g) ∧ (w.alloc (Obj.cells #[.int .i64 k, .bool true, .int .i64 g, .int .i64 l, .int .i64 f] 42)).drew.cell? ⟨w.heap.size, 3, none⟩ = some (.int .i64 l) ∧ (w.alloc (Obj.cells #[.int .i64 k, .bool true, .int .i64 g, .int .i64 l, .int .i64 f] 42)).drew.cell? ⟨w.heap.size, 4, none⟩ = some (.int .i64 f) := ⟨by simp [go_sem], by simp [go_sem], by simp [go_sem], by simp [go_sem]⟩
  have hSb := keepWC (wx := (w.alloc (Obj.cells #[.int .i64 k, .bool true, .int .i64 g, .int .i64 l, .int .i64 f] 42))) (wy := ((w.alloc (Obj.cells #[.int .i64 k, .bool true, .int .i64 g, .int .i64 l, .int .i64 f] 42)).alloc (Obj.cells #[.int .i64 k, .int .i64 1, .int .i64 g, .int .i64 l, .int .i64 f] 3)).drew) hS0 (by simp only [World.size_drew, World.size_alloc]; omega) (by go_grown)
  have hrowB := row5_new (w.alloc (Obj.cells #[.int .i64 k, .bool true, .int .i64 g, .int .i64 l, .int .i64 f] 42)) 3 k 1 g l f (cz k 1 g l f) ⟨rfl, rfl, rfl, rfl, rfl⟩ HB.out
  rw [World.size_alloc] at hrowB
  have HROW := Lib.hid hrowB
  clear hrowB
  go_enter Try.func50, Try.ntmps50
  go_wp2_with fail
  go_region_held3 (fun w' => w'.cell? ⟨w.heap.size, 0, none⟩ = some (.int .i64 k) ∧ w'.cell? ⟨w.heap.size, 2, none⟩ = some (.int .i64 g) ∧ w'.cell? ⟨w.heap.size, 3, none⟩ = some (.int .i64 l) ∧ w'.cell? ⟨w.heap.size, 4, none⟩ = some (.int .i64 f)) (first | with_reducible exact hS0 | with_reducible exact hSb | with_reducible exact hSy | with_reducible exact hSa | with_reducible exact hSz | with_reducible exact hTy | with_reducible exact hTz | fail)
    (first
      | ((with_reducible refine (layoutC _).mono ?_); rintro e wy ⟨cs, rfl, hL, hby⟩; have hSy := keepWC hS0 (by simp only [World.size_drew, World.size_alloc]; omega) hby; have hBy : Below w.heap.size w wy := Below.step (by go_grown) hby; have hly : w.heap.size < wy.heap.size := Nat.lt_of_lt_of_le (by simp only [World.size_drew, World.size_alloc]; omega) hby.size; have hSa := keepWC (wy := wy.alloc (Obj.cells #[.int .i64 k, .int .i64 1, .int .i64 g, .int .i64 l, .int .i64 f] 3)) hSy hly (by go_grown))
      | ((with_reducible refine (HP.out _ hL _ _ _ (row5_new wy 3 k 1 g l f (cz k 1 g l f) ⟨rfl, rfl, rfl, rfl, rfl⟩ HB.out)).mono ?_); rintro e wz ⟨rfl, hbz⟩; have hSz := keepWC hSy hly (Below.step (by go_grown) hbz); have hBz : Below w.heap.size w wz := Below.step (hBy.alloc hBy.size _) hbz)
      | ((with_reducible refine (layoutC _).mono ?_); rintro e wy ⟨cs, rfl, hL, hby⟩; have hTy := keepWC hSb (by simp only [World.size_drew, World.size_alloc]; omega) hby; have hBy : Below w.heap.size w wy := Below.step (by go_grown) hby; have hly : w.heap.size < wy.heap.size := Nat.lt_of_lt_of_le (by simp only [World.size_drew, World.size_alloc]; omega) hby.size; have HRY := Lib.hid (row_below (row_drew HROW.out) hby))
      | ((with_reducible refine (HP.out _ hL _ _ _ HRY.out).mono ?_); rintro e wz ⟨rfl, hbz⟩; have hTz := keepWC hTy hly hbz; have hBz : Below w.heap.size w wz := Below.step hBy hbz)
      | fail)
  all_goals go_wp2
  all_goals go_ret2
  all_goals exact ⟨rfl, hBz⟩
set_option maxRecDepth 100000 in
set_option maxHeartbeats 4000000 in
theorem wordC_ok_false (k g l f : Int) (w : World) (h : k ≤ 8) (hb : ∀ j, j < 5 → -9223372036854775808 ≤ (cz k 0 g l f) j ∧ (cz k 0 g l f) j ≤ 9223372036854775807) (hf : FitsC (cz k 0 g l f)) :
    Calls Try.prog 50 #[.agg #[.int .i64 k, .bool false, .int .i64 g, .int .i64 l, .int .i64 f]] w (fun e w' => e = .returned (.tuple #[.int .u64 (word shc (cz k 0 g l f) 5), .nilIface]) ∧ Below w.heap.size w w') := by
  have HB := Lib.hid hb
  have HP := Lib.hid (fun (cs : Array Value) (hL : Lay cs 5 shc) (A : Option Addr) (cap : Nat) (W : World) (hR : RowI W A 5 (cz k 0 g l f)) => show Calls Try.prog 71 #[.agg cs, .slice A 5 cap] W (fun e w' => e = .returned (.tuple #[.int .u64 (word shc (cz k 0 g l f) 5), .nilIface]) ∧ Below W.heap.size W w') from pack_ok hL shc_steps A cap W hR hf)
  clear hb hf
  have hS0 : (w.alloc (Obj.cells #[.int .i64 k, .bool false, .int .i64 g, .int .i64 l, .int .i64 f] 42)).drew.cell? ⟨w.heap.size, 0, none⟩ = some (.int .i64 k) ∧ (w.alloc (Obj.cells #[.int .i64 k, .bool false, .int .i64 g, .int .i64 l, .int .i64 f] 42)).drew.cell? ⟨w.heap.size, 2, none⟩ = some (.int .i64 g) ∧ (w.alloc (Obj.cells #[.int .i64 k, .bool false, .int .i64 g, .int .i64 l, .int .i64 f] 42)).drew.cell? ⟨w.heap.size, 3, none⟩ = some (.int .i64 l) ∧ (w.alloc (Obj.cells #[.int .i64 k, .bool false, .int .i64 g, .int .i64 l, .int .i64 f] 42)).drew.cell? ⟨w.heap.size, 4, none⟩ = some (.int .i64 f) := ⟨by simp [go_sem], by simp [go_sem], by simp [go_sem], by simp [go_sem]⟩
  have hSb := keepWC (wx := (w.alloc (Obj.cells #[.int .i64 k, .bool false, .int .i64 g, .int .i64 l, .int .i64 f] 42))) (wy := ((w.alloc (Obj.cells #[.int .i64 k, .bool false, .int .i64 g, .int .i64 l, .int .i64 f] 42)).alloc (Obj.cells #[.int .i64 k, .int .i64 0, .int .i64 g, .int .i64 l, .int .i64 f] 3)).drew) hS0 (by simp only [World.size_drew, World.size_alloc]; omega) (by go_grown)
  have hrowB := row5_new (w.alloc (Obj.cells #[.int .i64 k, .bool false, .int .i64 g, .int .i64 l, .int .i64 f] 42)) 3 k 0 g l f (cz k 0 g l f) ⟨rfl, rfl, rfl, rfl, rfl⟩ HB.out
  rw [World.size_alloc] at hrowB
  have HROW := Lib.hid hrowB
  clear hrowB
  go_enter Try.func50, Try.ntmps50
  go_wp2_with fail
  go_region_held3 (fun w' => w'.cell? ⟨w.heap.size, 0, none⟩ = some (.int .i64 k) ∧ w'.cell? ⟨w.heap.size, 2, none⟩ = some (.int .i64 g) ∧ w'.cell? ⟨w.heap.size, 3, none⟩ = some (.int .i64 l) ∧ w'.cell? ⟨w.heap.size, 4, none⟩ = some (.int .i64 f)) (first | with_reducible exact hS0 | with_reducible exact hSb | with_reducible exact hSy | with_reducible exact hSa | with_reducible exact hSz | with_reducible exact hTy | with_reducible exact hTz | fail)
    (first
      | ((with_reducible refine (layoutC _).mono ?_); rintro e wy ⟨cs, rfl, hL, hby⟩; have hSy := keepWC hS0 (by simp only [World.size_drew, World.size_alloc]; omega) hby; have hBy : Below w.heap.size w wy := Below.step (by go_grown) hby; have hly : w.heap.size < wy.heap.size := Nat.lt_of_lt_of_le (by simp only [World.size_drew, World.size_alloc]; omega) hby.size; have hSa := keepWC (wy := wy.alloc (Obj.cells #[.int .i64 k, .int .i64 0, .int .i64 g, .int .i64 l, .int .i64 f] 3)) hSy hly (by go_grown))
      | ((with_reducible refine (HP.out _ hL _ _ _ (row5_new wy 3 k 0 g l f (cz k 0 g l f) ⟨rfl, rfl, rfl, rfl, rfl⟩ HB.out)).mono ?_); rintro e wz ⟨rfl, hbz⟩; have hSz := keepWC hSy hly (Below.step (by go_grown) hbz); have hBz : Below w.heap.size w wz := Below.step (hBy.alloc hBy.size _) hbz)
      | ((with_reducible refine (layoutC _).mono ?_); rintro e wy ⟨cs, rfl, hL, hby⟩; have hTy := keepWC hSb (by simp only [World.size_drew, World.size_alloc]; omega) hby; have hBy : Below w.heap.size w wy := Below.step (by go_grown) hby; have hly : w.heap.size < wy.heap.size := Nat.lt_of_lt_of_le (by simp only [World.size_drew, World.size_alloc]; omega) hby.size; have HRY := Lib.hid (row_below (row_drew HROW.out) hby))
      | ((with_reducible refine (HP.out _ hL _ _ _ HRY.out).mono ?_); rintro e wz ⟨rfl, hbz⟩; have hTz := keepWC hTy hly hbz; have hBz : Below w.heap.size w wz := Below.step hBy hbz)
      | fail)
  all_goals go_wp2
  all_goals go_ret2
  all_goals exact ⟨rfl, hBz⟩
set_option maxRecDepth 100000 in
set_option maxHeartbeats 4000000 in
theorem wordC_bad_true (k g l f : Int) (w : World) (h : k ≤ 8) (hb : ∀ j, j < 5 → -9223372036854775808 ≤ (cz k 1 g l f) j ∧ (cz k 1 g l f) j ≤ 9223372036854775807) (j : Nat) (hj : j < 5) (hv : ∀ i, i < j → 0 ≤ (cz k 1 g l f) i ∧ (cz k 1 g l f) i < 2 ^ (shc (i + 1) - shc i).toNat) (hx : ¬ (0 ≤ (cz k 1 g l f) j ∧ (cz k 1 g l f) j < 2 ^ (shc (j + 1) - shc j).toNat)) :
    Calls Try.prog 50 #[.agg #[.int .i64 k, .bool true, .int .i64 g, .int .i64 l, .int .i64 f]] w ((PackBad j w)) := by
  have HB := Lib.hid hb
  have HP := Lib.hid (fun (cs : Array Value) (hL : Lay cs 5 shc) (A : Option Addr) (cap : Nat) (W : World) (hR : RowI W A 5 (cz k 1 g l f)) => show Calls Try.prog 71 #[.agg cs, .slice A 5 cap] W ((PackBad j W)) from pack_bad hL shc_steps A cap W hR j hj hv hx)
  clear hb hv hx
  have hS0 : (w.alloc (Obj.cells #[.int .i64 k, .bool true, .int .i64 g, .int .i64 l, .int .i64 f] 42)).drew.cell? ⟨w.heap.size, 0, none⟩ = some (.int .i64 k) ∧ (w.alloc (Obj.cells #[.int .i64 k, .bool true, .int .i64 g, .int .i64 l, .int .i64 f] 42)).drew.cell? ⟨w.heap.size, 2, none⟩ = some (.int .i64 g) ∧ (w.alloc (Obj.cells #[.int .i64 k, .bool true, .int .i64 g, .int .i64 l, .int .i64 f] 42)).drew.cell? ⟨w.heap.size, 3, none⟩ = some (.int .i64 l) ∧ (w.alloc (Obj.cells #[.int .i64 k, .bool true, .int .i64 g, .int .i64 l, .int .i64 f] 42)).drew.cell? ⟨w.heap.size, 4, none⟩ = some (.int .i64 f) := ⟨by simp [go_sem], by simp [go_sem], by simp [go_sem], by simp [go_sem]⟩
  have hSb := keepWC (wx := (w.alloc (Obj.cells #[.int .i64 k, .bool true, .int .i64 g, .int .i64 l, .int .i64 f] 42))) (wy := ((w.alloc (Obj.cells #[.int .i64 k, .bool true, .int .i64 g, .int .i64 l, .int .i64 f] 42)).alloc (Obj.cells #[.int .i64 k, .int .i64 1, .int .i64 g, .int .i64 l, .int .i64 f] 3)).drew) hS0 (by simp only [World.size_drew, World.size_alloc]; omega) (by go_grown)
  have hrowB := row5_new (w.alloc (Obj.cells #[.int .i64 k, .bool true, .int .i64 g, .int .i64 l, .int .i64 f] 42)) 3 k 1 g l f (cz k 1 g l f) ⟨rfl, rfl, rfl, rfl, rfl⟩ HB.out
  rw [World.size_alloc] at hrowB
  have HROW := Lib.hid hrowB
  clear hrowB
  go_enter Try.func50, Try.ntmps50
  go_wp2_with fail
  go_region_held3 (fun w' => w'.cell? ⟨w.heap.size, 0, none⟩ = some (.int .i64 k) ∧ w'.cell? ⟨w.heap.size, 2, none⟩ = some (.int .i64 g) ∧ w'.cell? ⟨w.heap.size, 3, none⟩ = some (.int .i64 l) ∧ w'.cell? ⟨w.heap.size, 4, none⟩ = some (.int .i64 f)) (first | with_reducible exact hS0 | with_reducible exact hSb | with_reducible exact hSy | with_reducible exact hSa | with_reducible exact hSz | with_reducible exact hTy | with_reducible exact hTz | fail)
    (first
      | ((with_reducible refine (layoutC _).mono ?_); rintro e wy ⟨cs, rfl, hL, hby⟩; have hSy := keepWC hS0 (by simp only [World.size_drew, World.size_alloc]; omega) hby; have hBy : Below w.heap.size w wy := Below.step (by go_grown) hby; have hly : w.heap.size < wy.heap.size := Nat.lt_of_lt_of_le (by simp only [World.size_drew, World.size_alloc]; omega) hby.size; have hSa := keepWC (wy := wy.alloc (Obj.cells #[.int .i64 k, .int .i64 1, .int .i64 g, .int .i64 l, .int .i64 f] 3)) hSy hly (by go_grown))
      | ((with_reducible refine (HP.out _ hL _ _ _ (row5_new wy 3 k 1 g l f (cz k 1 g l f) ⟨rfl, rfl, rfl, rfl, rfl⟩ HB.out)).mono ?_); rintro e wz ⟨v, rfl, hF, hbz⟩; have HF := Lib.hid hF; clear hF; have hSz := keepWC hSy hly (Below.step (by go_grown) hbz); have hBz : Below w.heap.size w wz := Below.step (hBy.alloc hBy.size _) hbz; have HFL := Lib.hid (HF.out.low (by rw [World.size_alloc]; omega) : AtF w wz 5 _ v))
      | ((with_reducible refine (layoutC _).mono ?_); rintro e wy ⟨cs, rfl, hL, hby⟩; have hTy := keepWC hSb (by simp only [World.size_drew, World.size_alloc]; omega) hby; have hBy : Below w.heap.size w wy := Below.step (by go_grown) hby; have hly : w.heap.size < wy.heap.size := Nat.lt_of_lt_of_le (by simp only [World.size_drew, World.size_alloc]; omega) hby.size; have HRY := Lib.hid (row_below (row_drew HROW.out) hby))
      | ((with_reducible refine (HP.out _ hL _ _ _ HRY.out).mono ?_); rintro e wz ⟨v, rfl, hF, hbz⟩; have HF := Lib.hid hF; clear hF; have hTz := keepWC hTy hly hbz; have hBz : Below w.heap.size w wz := Below.step hBy hbz; have HFL := Lib.hid (HF.out.low (by omega) : AtF w wz 5 _ v))
      | fail)
  all_goals go_wp2
  all_goals go_ret2
  all_goals exact ⟨_, rfl, HFL.out, hBz⟩
set_option maxRecDepth 100000 in
set_option maxHeartbeats 4000000 in
theorem wordC_bad_false (k g l f : Int) (w : World) (h : k ≤ 8) (hb : ∀ j, j < 5 → -9223372036854775808 ≤ (cz k 0 g l f) j ∧ (cz k 0 g l f) j ≤ 9223372036854775807) (j : Nat) (hj : j < 5) (hv : ∀ i, i < j → 0 ≤ (cz k 0 g l f) i ∧ (cz k 0 g l f) i < 2 ^ (shc (i + 1) - shc i).toNat) (hx : ¬ (0 ≤ (cz k 0 g l f) j ∧ (cz k 0 g l f) j < 2 ^ (shc (j + 1) - shc j).toNat)) :
    Calls Try.prog 50 #[.agg #[.int .i64 k, .bool false, .int .i64 g, .int .i64 l, .int .i64 f]] w ((PackBad j w)) := by
  have HB := Lib.hid hb
  have HP := Lib.hid (fun (cs : Array Value) (hL : Lay cs 5 shc) (A : Option Addr) (cap : Nat) (W : World) (hR : RowI W A 5 (cz k 0 g l f)) => show Calls Try.prog 71 #[.agg cs, .slice A 5 cap] W ((PackBad j W)) from pack_bad hL shc_steps A cap W hR j hj hv hx)
  clear hb hv hx
  have hS0 : (w.alloc (Obj.cells #[.int .i64 k, .bool false, .int .i64 g, .int .i64 l, .int .i64 f] 42)).drew.cell? ⟨w.heap.size, 0, none⟩ = some (.int .i64 k) ∧ (w.alloc (Obj.cells #[.int .i64 k, .bool false, .int .i64 g, .int .i64 l, .int .i64 f] 42)).drew.cell? ⟨w.heap.size, 2, none⟩ = some (.int .i64 g) ∧ (w.alloc (Obj.cells #[.int .i64 k, .bool false, .int .i64 g, .int .i64 l, .int .i64 f] 42)).drew.cell? ⟨w.heap.size, 3, none⟩ = some (.int .i64 l) ∧ (w.alloc (Obj.cells #[.int .i64 k, .bool false, .int .i64 g, .int .i64 l, .int .i64 f] 42)).drew.cell? ⟨w.heap.size, 4, none⟩ = some (.int .i64 f) := ⟨by simp [go_sem], by simp [go_sem], by simp [go_sem], by simp [go_sem]⟩
  have hSb := keepWC (wx := (w.alloc (Obj.cells #[.int .i64 k, .bool false, .int .i64 g, .int .i64 l, .int .i64 f] 42))) (wy := ((w.alloc (Obj.cells #[.int .i64 k, .bool false, .int .i64 g, .int .i64 l, .int .i64 f] 42)).alloc (Obj.cells #[.int .i64 k, .int .i64 0, .int .i64 g, .int .i64 l, .int .i64 f] 3)).drew) hS0 (by simp only [World.size_drew, World.size_alloc]; omega) (by go_grown)
  have hrowB := row5_new (w.alloc (Obj.cells #[.int .i64 k, .bool false, .int .i64 g, .int .i64 l, .int .i64 f] 42)) 3 k 0 g l f (cz k 0 g l f) ⟨rfl, rfl, rfl, rfl, rfl⟩ HB.out
  rw [World.size_alloc] at hrowB
  have HROW := Lib.hid hrowB
  clear hrowB
  go_enter Try.func50, Try.ntmps50
  go_wp2_with fail
  go_region_held3 (fun w' => w'.cell? ⟨w.heap.size, 0, none⟩ = some (.int .i64 k) ∧ w'.cell? ⟨w.heap.size, 2, none⟩ = some (.int .i64 g) ∧ w'.cell? ⟨w.heap.size, 3, none⟩ = some (.int .i64 l) ∧ w'.cell? ⟨w.heap.size, 4, none⟩ = some (.int .i64 f)) (first | with_reducible exact hS0 | with_reducible exact hSb | with_reducible exact hSy | with_reducible exact hSa | with_reducible exact hSz | with_reducible exact hTy | with_reducible exact hTz | fail)
    (first
      | ((with_reducible refine (layoutC _).mono ?_); rintro e wy ⟨cs, rfl, hL, hby⟩; have hSy := keepWC hS0 (by simp only [World.size_drew, World.size_alloc]; omega) hby; have hBy : Below w.heap.size w wy := Below.step (by go_grown) hby; have hly : w.heap.size < wy.heap.size := Nat.lt_of_lt_of_le (by simp only [World.size_drew, World.size_alloc]; omega) hby.size; have hSa := keepWC (wy := wy.alloc (Obj.cells #[.int .i64 k, .int .i64 0, .int .i64 g, .int .i64 l, .int .i64 f] 3)) hSy hly (by go_grown))
      | ((with_reducible refine (HP.out _ hL _ _ _ (row5_new wy 3 k 0 g l f (cz k 0 g l f) ⟨rfl, rfl, rfl, rfl, rfl⟩ HB.out)).mono ?_); rintro e wz ⟨v, rfl, hF, hbz⟩; have HF := Lib.hid hF; clear hF; have hSz := keepWC hSy hly (Below.step (by go_grown) hbz); have hBz : Below w.heap.size w wz := Below.step (hBy.alloc hBy.size _) hbz; have HFL := Lib.hid (HF.out.low (by rw [World.size_alloc]; omega) : AtF w wz 5 _ v))
      | ((with_reducible refine (layoutC _).mono ?_); rintro e wy ⟨cs, rfl, hL, hby⟩; have hTy := keepWC hSb (by simp only [World.size_drew, World.size_alloc]; omega) hby; have hBy : Below w.heap.size w wy := Below.step (by go_grown) hby; have hly : w.heap.size < wy.heap.size := Nat.lt_of_lt_of_le (by simp only [World.size_drew, World.size_alloc]; omega) hby.size; have HRY := Lib.hid (row_below (row_drew HROW.out) hby))
      | ((with_reducible refine (HP.out _ hL _ _ _ HRY.out).mono ?_); rintro e wz ⟨v, rfl, hF, hbz⟩; have HF := Lib.hid hF; clear hF; have hTz := keepWC hTy hly hbz; have hBz : Below w.heap.size w wz := Below.step hBy hbz; have HFL := Lib.hid (HF.out.low (by omega) : AtF w wz 5 _ v))
      | fail)
  all_goals go_wp2
  all_goals go_ret2
  all_goals exact ⟨_, rfl, HFL.out, hBz⟩
set_option maxHeartbeats 1000000 in
theorem wordC_high (k g l f : Int) (b : Bool) (w : World) (h : 8 < k) : Calls Try.prog 50 #[.agg #[.int .i64 k, .bool b, .int .i64 g, .int .i64 l, .int .i64 f]] w (PackBad 0 w) := by
  go_enter Try.func50, Try.ntmps50
  go_wp2_with fail
  refine (at_code _ _ _).mono ?_
  rintro e w1 ⟨v, rfl, hF, hb1⟩
  have hB1 : Below w.heap.size w w1 := Below.step (by go_grown) hb1
  have HF := Lib.hid hF
  clear hF hb1
  go_wp2
  go_ret2
  exact ⟨_, rfl, HF.out.low (by rw [World.size_alloc]; omega), hB1⟩
set_option maxHeartbeats 1000000 in
theorem rwordC_high (k g l f : Int) (b : Bool) (w : World) (h : 8 < k) : Calls Try.prog 29 #[.agg #[.int .i64 k, .bool b, .int .i64 g, .int .i64 l, .int .i64 f]] w fun e w' => e = .returned (.tuple #[.int .u64 0, .int .i64 5]) ∧ Below w.heap.size w w' := by
  go_enter Try.func29, Try.ntmps29
  go_wp2
  go_ret2
  exact ⟨rfl, by go_grown⟩
set_option maxRecDepth 100000 in
set_option maxHeartbeats 4000000 in
theorem rwordC_ok_true (k g l f : Int) (w : World) (h : k ≤ 8) (hb : ∀ j, j < 5 → -9223372036854775808 ≤ (cz k 1 g l f) j ∧ (cz k 1 g l f) j ≤ 9223372036854775807) (hf : FitsC (cz k 1 g l f)) :
    Calls Try.prog 29 #[.agg #[.int .i64 k, .bool true, .int .i64 g, .int .i64 l, .int .i64 f]] w fun e w' => e = .returned (.tuple #[.int .u64 (word shc (cz k 1 g l f) 5), .int .i64 0]) ∧ Below w.heap.size w w' := by
  have hR0 := row5_new (w.alloc (Obj.cells #[.int .i64 k, .bool true, .int .i64 g, .int .i64 l, .int .i64 f] 42)) 3 4 1 8 16 8 wdc ⟨rfl, rfl, rfl, rfl, rfl⟩ (fun k hk => by match k, hk with | 0, _ | 1, _ | 2, _ | 3, _ | 4, _ => decide)
  have hR1 : Hid (RowI (((w.alloc (Obj.cells #[.int .i64 k, .bool true, .int .i64 g, .int .i64 l, .int .i64 f] 42)).alloc (Obj.cells #[.int .i64 4, .int .i64 1, .int .i64 8, .int .i64 16, .int .i64 8] 3)).alloc (Obj.cells #[.int .i64 k, .int .i64 1, .int .i64 g, .int .i64 l, .int .i64 f] 3)) (some ⟨(w.alloc (Obj.cells #[.int .i64 k, .bool true, .int .i64 g, .int .i64 l, .int .i64 f] 42)).heap.size, 0, none⟩) 5 wdc) := row_below hR0 (by go_grown)
  have hR2 := Lib.hid (row5_new ((w.alloc (Obj.cells #[.int .i64 k, .bool true, .int .i64 g, .int .i64 l, .int .i64 f] 42)).alloc (Obj.cells #[.int .i64 4, .int .i64 1, .int .i64 8, .int .i64 16, .int .i64 8] 3)) 3 k 1 g l f (cz k 1 g l f) ⟨rfl, rfl, rfl, rfl, rfl⟩ hb)
  have HP := Lib.hid (show Calls Try.prog 57 #[.slice (some ⟨w.heap.size + 1, 0, none⟩) 5 5, .slice (some ⟨w.heap.size + 1 + 1, 0, none⟩) 5 5] (((w.alloc (Obj.cells #[.int .i64 k, .bool true, .int .i64 g, .int .i64 l, .int .i64 f] 42)).alloc (Obj.cells #[.int .i64 4, .int .i64 1, .int .i64 8, .int .i64 16, .int .i64 8] 3)).alloc (Obj.cells #[.int .i64 k, .int .i64 1, .int .i64 g, .int .i64 l, .int .i64 f] 3)) fun e w' => e = .returned (.tuple #[.int .u64 (word shc (cz k 1 g l f) 5), .int .i64 0, .int .i64 0]) ∧ (((w.alloc (Obj.cells #[.int .i64 k, .bool true, .int .i64 g, .int .i64 l, .int .i64 f] 42)).alloc (Obj.cells #[.int .i64 4, .int .i64 1, .int .i64 8, .int .i64 16, .int .i64 8] 3)).alloc (Obj.cells #[.int .i64 k, .int .i64 1, .int .i64 g, .int .i64 l, .int .i64 f] 3)) = w' from by
    have e1 := hR1.out
    have e2 := hR2.out
    simp only [World.size_alloc] at e1 e2
    have hR1 := Lib.hid e1
    have hR2 := Lib.hid e2
    exact rpack_ok shc_steps shc_wd _ _ 5 5 _ hR1.out hR2.out hf)
  clear hR0 hR1 hR2 hb hf
  go_enter Try.func29, Try.ntmps29
  go_wp2_with fail
  refine HP.out.mono ?_
  rintro e w' ⟨rfl, rfl⟩
  go_wp2
  go_ret2
  exact ⟨rfl, by go_grown⟩
set_option maxRecDepth 100000 in
set_option maxHeartbeats 4000000 in
theorem rwordC_ok_false (k g l f : Int) (w : World) (h : k ≤ 8) (hb : ∀ j, j < 5 → -9223372036854775808 ≤ (cz k 0 g l f) j ∧ (cz k 0 g l f) j ≤ 9223372036854775807) (hf : FitsC (cz k 0 g l f)) :
    Calls Try.prog 29 #[.agg #[.int .i64 k, .bool false, .int .i64 g, .int .i64 l, .int .i64 f]] w fun e w' => e = .returned (.tuple #[.int .u64 (word shc (cz k 0 g l f) 5), .int .i64 0]) ∧ Below w.heap.size w w' := by
  have hR0 := row5_new (w.alloc (Obj.cells #[.int .i64 k, .bool false, .int .i64 g, .int .i64 l, .int .i64 f] 42)) 3 4 1 8 16 8 wdc ⟨rfl, rfl, rfl, rfl, rfl⟩ (fun k hk => by match k, hk with | 0, _ | 1, _ | 2, _ | 3, _ | 4, _ => decide)
  have hR1 : Hid (RowI (((w.alloc (Obj.cells #[.int .i64 k, .bool false, .int .i64 g, .int .i64 l, .int .i64 f] 42)).alloc (Obj.cells #[.int .i64 4, .int .i64 1, .int .i64 8, .int .i64 16, .int .i64 8] 3)).alloc (Obj.cells #[.int .i64 k, .int .i64 0, .int .i64 g, .int .i64 l, .int .i64 f] 3)) (some ⟨(w.alloc (Obj.cells #[.int .i64 k, .bool false, .int .i64 g, .int .i64 l, .int .i64 f] 42)).heap.size, 0, none⟩) 5 wdc) := row_below hR0 (by go_grown)
  have hR2 := Lib.hid (row5_new ((w.alloc (Obj.cells #[.int .i64 k, .bool false, .int .i64 g, .int .i64 l, .int .i64 f] 42)).alloc (Obj.cells #[.int .i64 4, .int .i64 1, .int .i64 8, .int .i64 16, .int .i64 8] 3)) 3 k 0 g l f (cz k 0 g l f) ⟨rfl, rfl, rfl, rfl, rfl⟩ hb)
  have HP := Lib.hid (show Calls Try.prog 57 #[.slice (some ⟨w.heap.size + 1, 0, none⟩) 5 5, .slice (some ⟨w.heap.size + 1 + 1, 0, none⟩) 5 5] (((w.alloc (Obj.cells #[.int .i64 k, .bool false, .int .i64 g, .int .i64 l, .int .i64 f] 42)).alloc (Obj.cells #[.int .i64 4, .int .i64 1, .int .i64 8, .int .i64 16, .int .i64 8] 3)).alloc (Obj.cells #[.int .i64 k, .int .i64 0, .int .i64 g, .int .i64 l, .int .i64 f] 3)) fun e w' => e = .returned (.tuple #[.int .u64 (word shc (cz k 0 g l f) 5), .int .i64 0, .int .i64 0]) ∧ (((w.alloc (Obj.cells #[.int .i64 k, .bool false, .int .i64 g, .int .i64 l, .int .i64 f] 42)).alloc (Obj.cells #[.int .i64 4, .int .i64 1, .int .i64 8, .int .i64 16, .int .i64 8] 3)).alloc (Obj.cells #[.int .i64 k, .int .i64 0, .int .i64 g, .int .i64 l, .int .i64 f] 3)) = w' from by
    have e1 := hR1.out
    have e2 := hR2.out
    simp only [World.size_alloc] at e1 e2
    have hR1 := Lib.hid e1
    have hR2 := Lib.hid e2
    exact rpack_ok shc_steps shc_wd _ _ 5 5 _ hR1.out hR2.out hf)
  clear hR0 hR1 hR2 hb hf
  go_enter Try.func29, Try.ntmps29
  go_wp2_with fail
  refine HP.out.mono ?_
  rintro e w' ⟨rfl, rfl⟩
  go_wp2
  go_ret2
  exact ⟨rfl, by go_grown⟩
set_option maxRecDepth 100000 in
set_option maxHeartbeats 4000000 in
theorem rwordC_bad_true (k g l f : Int) (w : World) (h : k ≤ 8) (hb : ∀ j, j < 5 → -9223372036854775808 ≤ (cz k 1 g l f) j ∧ (cz k 1 g l f) j ≤ 9223372036854775807) (j : Nat) (hj : j < 5) (hv : ∀ i, i < j → 0 ≤ (cz k 1 g l f) i ∧ (cz k 1 g l f) i < 2 ^ (shc (i + 1) - shc i).toNat) (hx : ¬ (0 ≤ (cz k 1 g l f) j ∧ (cz k 1 g l f) j < 2 ^ (shc (j + 1) - shc j).toNat)) :
    Calls Try.prog 29 #[.agg #[.int .i64 k, .bool true, .int .i64 g, .int .i64 l, .int .i64 f]] w fun e w' => e = .returned (.tuple #[.int .u64 0, .int .i64 5]) ∧ Below w.heap.size w w' := by
  have hR0 := row5_new (w.alloc (Obj.cells #[.int .i64 k, .bool true, .int .i64 g, .int .i64 l, .int .i64 f] 42)) 3 4 1 8 16 8 wdc ⟨rfl, rfl, rfl, rfl, rfl⟩ (fun k hk => by match k, hk with | 0, _ | 1, _ | 2, _ | 3, _ | 4, _ => decide)
  have hR1 : Hid (RowI (((w.alloc (Obj.cells #[.int .i64 k, .bool true, .int .i64 g, .int .i64 l, .int .i64 f] 42)).alloc (Obj.cells #[.int .i64 4, .int .i64 1, .int .i64 8, .int .i64 16, .int .i64 8] 3)).alloc (Obj.cells #[.int .i64 k, .int .i64 1, .int .i64 g, .int .i64 l, .int .i64 f] 3)) (some ⟨(w.alloc (Obj.cells #[.int .i64 k, .bool true, .int .i64 g, .int .i64 l, .int .i64 f] 42)).heap.size, 0, none⟩) 5 wdc) := row_below hR0 (by go_grown)
  have hR2 := Lib.hid (row5_new ((w.alloc (Obj.cells #[.int .i64 k, .bool true, .int .i64 g, .int .i64 l, .int .i64 f] 42)).alloc (Obj.cells #[.int .i64 4, .int .i64 1, .int .i64 8, .int .i64 16, .int .i64 8] 3)) 3 k 1 g l f (cz k 1 g l f) ⟨rfl, rfl, rfl, rfl, rfl⟩ hb)
  have HP := Lib.hid (show Calls Try.prog 57 #[.slice (some ⟨w.heap.size + 1, 0, none⟩) 5 5, .slice (some ⟨w.heap.size + 1 + 1, 0, none⟩) 5 5] (((w.alloc (Obj.cells #[.int .i64 k, .bool true, .int .i64 g, .int .i64 l, .int .i64 f] 42)).alloc (Obj.cells #[.int .i64 4, .int .i64 1, .int .i64 8, .int .i64 16, .int .i64 8] 3)).alloc (Obj.cells #[.int .i64 k, .int .i64 1, .int .i64 g, .int .i64 l, .int .i64 f] 3)) fun e w' => e = .returned (.tuple #[.int .u64 0, .int .i64 5, .int .i64 j]) ∧ (((w.alloc (Obj.cells #[.int .i64 k, .bool true, .int .i64 g, .int .i64 l, .int .i64 f] 42)).alloc (Obj.cells #[.int .i64 4, .int .i64 1, .int .i64 8, .int .i64 16, .int .i64 8] 3)).alloc (Obj.cells #[.int .i64 k, .int .i64 1, .int .i64 g, .int .i64 l, .int .i64 f] 3)) = w' from by
    have e1 := hR1.out
    have e2 := hR2.out
    simp only [World.size_alloc] at e1 e2
    have hR1 := Lib.hid e1
    have hR2 := Lib.hid e2
    exact rpack_bad shc_steps shc_wd _ _ 5 5 _ hR1.out hR2.out j hj hv hx)
  clear hR0 hR1 hR2 hb hv hx
  go_enter Try.func29, Try.ntmps29
  go_wp2_with fail
  refine HP.out.mono ?_
  rintro e w' ⟨rfl, rfl⟩
  go_wp2
  go_ret2
  exact ⟨rfl, by go_grown⟩
set_option maxRecDepth 100000 in
set_option maxHeartbeats 4000000 in
theorem rwordC_bad_false (k g l f : Int) (w : World) (h : k ≤ 8) (hb : ∀ j, j < 5 → -9223372036854775808 ≤ (cz k 0 g l f) j ∧ (cz k 0 g l f) j ≤ 9223372036854775807) (j : Nat) (hj : j < 5) (hv : ∀ i, i < j → 0 ≤ (cz k 0 g l f) i ∧ (cz k 0 g l f) i < 2 ^ (shc (i + 1) - shc i).toNat) (hx : ¬ (0 ≤ (cz k 0 g l f) j ∧ (cz k 0 g l f) j < 2 ^ (shc (j + 1) - shc j).toNat)) :
    Calls Try.prog 29 #[.agg #[.int .i64 k, .bool false, .int .i64 g, .int .i64 l, .int .i64 f]] w fun e w' => e = .returned (.tuple #[.int .u64 0, .int .i64 5]) ∧ Below w.heap.size w w' := by
  have hR0 := row5_new (w.alloc (Obj.cells #[.int .i64 k, .bool false, .int .i64 g, .int .i64 l, .int .i64 f] 42)) 3 4 1 8 16 8 wdc ⟨rfl, rfl, rfl, rfl, rfl⟩ (fun k hk => by match k, hk with | 0, _ | 1, _ | 2, _ | 3, _ | 4, _ => decide)
  have hR1 : Hid (RowI (((w.alloc (Obj.cells #[.int .i64 k, .bool false, .int .i64 g, .int .i64 l, .int .i64 f] 42)).alloc (Obj.cells #[.int .i64 4, .int .i64 1, .int .i64 8, .int .i64 16, .int .i64 8] 3)).alloc (Obj.cells #[.int .i64 k, .int .i64 0, .int .i64 g, .int .i64 l, .int .i64 f] 3)) (some ⟨(w.alloc (Obj.cells #[.int .i64 k, .bool false, .int .i64 g, .int .i64 l, .int .i64 f] 42)).heap.size, 0, none⟩) 5 wdc) := row_below hR0 (by go_grown)
  have hR2 := Lib.hid (row5_new ((w.alloc (Obj.cells #[.int .i64 k, .bool false, .int .i64 g, .int .i64 l, .int .i64 f] 42)).alloc (Obj.cells #[.int .i64 4, .int .i64 1, .int .i64 8, .int .i64 16, .int .i64 8] 3)) 3 k 0 g l f (cz k 0 g l f) ⟨rfl, rfl, rfl, rfl, rfl⟩ hb)
  have HP := Lib.hid (show Calls Try.prog 57 #[.slice (some ⟨w.heap.size + 1, 0, none⟩) 5 5, .slice (some ⟨w.heap.size + 1 + 1, 0, none⟩) 5 5] (((w.alloc (Obj.cells #[.int .i64 k, .bool false, .int .i64 g, .int .i64 l, .int .i64 f] 42)).alloc (Obj.cells #[.int .i64 4, .int .i64 1, .int .i64 8, .int .i64 16, .int .i64 8] 3)).alloc (Obj.cells #[.int .i64 k, .int .i64 0, .int .i64 g, .int .i64 l, .int .i64 f] 3)) fun e w' => e = .returned (.tuple #[.int .u64 0, .int .i64 5, .int .i64 j]) ∧ (((w.alloc (Obj.cells #[.int .i64 k, .bool false, .int .i64 g, .int .i64 l, .int .i64 f] 42)).alloc (Obj.cells #[.int .i64 4, .int .i64 1, .int .i64 8, .int .i64 16, .int .i64 8] 3)).alloc (Obj.cells #[.int .i64 k, .int .i64 0, .int .i64 g, .int .i64 l, .int .i64 f] 3)) = w' from by
    have e1 := hR1.out
    have e2 := hR2.out
    simp only [World.size_alloc] at e1 e2
    have hR1 := Lib.hid e1
    have hR2 := Lib.hid e2
    exact rpack_bad shc_steps shc_wd _ _ 5 5 _ hR1.out hR2.out j hj hv hx)
  clear hR0 hR1 hR2 hb hv hx
  go_enter Try.func29, Try.ntmps29
  go_wp2_with fail
  refine HP.out.mono ?_
  rintro e w' ⟨rfl, rfl⟩
  go_wp2
  go_ret2
  exact ⟨rfl, by go_grown⟩
def rz (k q p t c g : Int) : Nat → Int
  | 0 => k | 1 => q | 2 => p | 3 => t | 4 => c | 5 => g | _ => 0
def FitsR (z : Nat → Int) : Prop := ∀ k, k < 6 → 0 ≤ z k ∧ z k < 2 ^ (shr (k + 1) - shr k).toNat
theorem keepWR {B : Nat} {v0 v1 v2 v3 v4 v5 : Value} {wx wy : World} (h : wx.cell? ⟨B, 0, none⟩ = some v0 ∧ wx.cell? ⟨B, 1, none⟩ = some v1 ∧ wx.cell? ⟨B, 2, none⟩ = some v2 ∧ wx.cell? ⟨B, 3, none⟩ = some v3 ∧ wx.cell? ⟨B, 4, none⟩ = some v4 ∧ wx.cell? ⟨B, 5, none⟩ = some v5) (hs : B < wx.heap.size) (hb : Below wx.heap.size wx wy) : wy.cell? ⟨B, 0, none⟩ = some v0 ∧ wy.cell? ⟨B, 1, none⟩ = some v1 ∧ wy.cell? ⟨B, 2, none⟩ = some v2 ∧ wy.cell? ⟨B, 3, none⟩ = some v3 ∧ wy.cell? ⟨B, 4, none⟩ = some v4 ∧ wy.cell? ⟨B, 5, none⟩ = some v5 := by
  have e : ∀ o, wy.cell? ⟨B, o, none⟩ = wx.cell? ⟨B, o, none⟩ := fun o => hb.cell (p := ⟨B, o, none⟩) hs
  obtain ⟨c0, c1, c2, c3, c4, c5⟩ := h
  exact ⟨(e 0).trans c0, (e 1).trans c1, (e 2).trans c2, (e 3).trans c3, (e 4).trans c4, (e 5).trans c5⟩
set_option maxRecDepth 100000 in
set_option maxHeartbeats 4000000 in
theorem wordR_ok (k q p t c g : Int) (w : World) (h : k ≤ 5) (hb : ∀ j, j < 6 → -9223372036854775808 ≤ (rz k q p t c g) j ∧ (rz k q p t c g) j ≤ 9223372036854775807) (hf : FitsR (rz k q p t c g)) :
    Calls Try.prog 78 #[.agg #[.int .i64 k, .int .i64 q, .int .i64 p, .int .i64 t, .int .i64 c, .int .i64 g]] w (fun e w' => e = .returned (.tuple #[.int .u64 (word shr (rz k q p t c g) 6), .nilIface]) ∧ Below w.heap.size w w') := by
  have HB := Lib.hid hb
  have HP := Lib.hid (fun (cs : Array Value) (hL : Lay cs 6 shr) (A : Option Addr) (cap : Nat) (W : World) (hR : RowI W A 6 (rz k q p t c g)) => show Calls Try.prog 71 #[.agg cs, .slice A 6 cap] W (fun e w' => e = .returned (.tuple #[.int .u64 (word shr (rz k q p t c g) 6), .nilIface]) ∧ Below W.heap.size W w') from pack_ok hL shr_steps A cap W hR hf)
  clear hb hf
  have hS0 : (w.alloc (Obj.cells #[.int .i64 k, .int .i64 q, .int .i64 p, .int .i64 t, .int .i64 c, .int .i64 g] 65)).drew.cell? ⟨w.heap.size, 0, none⟩ = some (.int .i64 k) ∧ (w.alloc (Obj.cells #[.int .i64 k, .int .i64 q, .int .i64 p, .int .i64 t, .int .i64 c, .int .i64 g] 65)).drew.cell? ⟨w.heap.size, 1, none⟩ = some (.int .i64 q) ∧ (w.alloc (Obj.cells #[.int .i64 k, .int .i64 q, .int .i64 p, .int .i64 t, .int .i64 c, .int .i64 g] 65)).drew.cell? ⟨w.heap.size, 2, none⟩ = some (.int .i64 p) ∧ (w.alloc (Obj.cells #[.int .i64 k, .int .i64 q, .int .i64 p, .int .i64 t, .int .i64 c, .int .i64 g] 65)).drew.cell? ⟨w.heap.size, 3, none⟩ = some (.int .i64 t) ∧ (w.alloc (Obj.cells #[.int .i64 k, .int .i64 q, .int .i64 p, .int .i64 t, .int .i64 c, .int .i64 g] 65)).drew.cell? ⟨w.heap.size, 4, none⟩ = some (.int .i64 c) ∧ (w.alloc (Obj.cells #[.int .i64 k, .int .i64 q, .int .i64 p, .int .i64 t, .int .i64 c, .int .i64 g] 65)).drew.cell? ⟨w.heap.size, 5, none⟩ = some (.int .i64 g) := ⟨by simp [go_sem], by simp [go_sem], by simp [go_sem], by simp [go_sem], by simp [go_sem], by simp [go_sem]⟩
  have hSb := keepWR (wx := (w.alloc (Obj.cells #[.int .i64 k, .int .i64 q, .int .i64 p, .int .i64 t, .int .i64 c, .int .i64 g] 65))) (wy := ((w.alloc (Obj.cells #[.int .i64 k, .int .i64 q, .int .i64 p, .int .i64 t, .int .i64 c, .int .i64 g] 65)).alloc (Obj.cells #[.int .i64 k, .int .i64 q, .int .i64 p, .int .i64 t, .int .i64 c, .int .i64 g] 3)).drew) hS0 (by simp only [World.size_drew, World.size_alloc]; omega) (by go_grown)
  have hrowB := row6_new (w.alloc (Obj.cells #[.int .i64 k, .int .i64 q, .int .i64 p, .int .i64 t, .int .i64 c, .int .i64 g] 65)) 3 k q p t c g (rz k q p t c g) ⟨rfl, rfl, rfl, rfl, rfl, rfl⟩ HB.out
  rw [World.size_alloc] at hrowB
  have HROW := Lib.hid hrowB
  clear hrowB
  go_enter Try.func78, Try.ntmps78
  go_wp2_with fail
  go_region_held3 (fun w' => w'.cell? ⟨w.heap.size, 0, none⟩ = some (.int .i64 k) ∧ w'.cell? ⟨w.heap.size, 1, none⟩ = some (.int .i64 q) ∧ w'.cell? ⟨w.heap.size, 2, none⟩ = some (.int .i64 p) ∧ w'.cell? ⟨w.heap.size, 3, none⟩ = some (.int .i64 t) ∧ w'.cell? ⟨w.heap.size, 4, none⟩ = some (.int .i64 c) ∧ w'.cell? ⟨w.heap.size, 5, none⟩ = some (.int .i64 g)) (first | with_reducible exact hS0 | with_reducible exact hSb | with_reducible exact hSy | with_reducible exact hSa | with_reducible exact hSz | with_reducible exact hTy | with_reducible exact hTz | fail)
    (first
      | ((with_reducible refine (layoutR _).mono ?_); rintro e wy ⟨cs, rfl, hL, hby⟩; have hSy := keepWR hS0 (by simp only [World.size_drew, World.size_alloc]; omega) hby; have hBy : Below w.heap.size w wy := Below.step (by go_grown) hby; have hly : w.heap.size < wy.heap.size := Nat.lt_of_lt_of_le (by simp only [World.size_drew, World.size_alloc]; omega) hby.size; have hSa := keepWR (wy := wy.alloc (Obj.cells #[.int .i64 k, .int .i64 q, .int .i64 p, .int .i64 t, .int .i64 c, .int .i64 g] 3)) hSy hly (by go_grown))
      | ((with_reducible refine (HP.out _ hL _ _ _ (row6_new wy 3 k q p t c g (rz k q p t c g) ⟨rfl, rfl, rfl, rfl, rfl, rfl⟩ HB.out)).mono ?_); rintro e wz ⟨rfl, hbz⟩; have hSz := keepWR hSy hly (Below.step (by go_grown) hbz); have hBz : Below w.heap.size w wz := Below.step (hBy.alloc hBy.size _) hbz)
      | ((with_reducible refine (layoutR _).mono ?_); rintro e wy ⟨cs, rfl, hL, hby⟩; have hTy := keepWR hSb (by simp only [World.size_drew, World.size_alloc]; omega) hby; have hBy : Below w.heap.size w wy := Below.step (by go_grown) hby; have hly : w.heap.size < wy.heap.size := Nat.lt_of_lt_of_le (by simp only [World.size_drew, World.size_alloc]; omega) hby.size; have HRY := Lib.hid (row_below (row_drew HROW.out) hby))
      | ((with_reducible refine (HP.out _ hL _ _ _ HRY.out).mono ?_); rintro e wz ⟨rfl, hbz⟩; have hTz := keepWR hTy hly hbz; have hBz : Below w.heap.size w wz := Below.step hBy hbz)
      | fail)
  all_goals go_wp2
  all_goals go_ret2
  all_goals exact ⟨rfl, hBz⟩
set_option maxRecDepth 100000 in
set_option maxHeartbeats 4000000 in
theorem wordR_bad (k q p t c g : Int) (w : World) (h : k ≤ 5) (hb : ∀ j, j < 6 → -9223372036854775808 ≤ (rz k q p t c g) j ∧ (rz k q p t c g) j ≤ 9223372036854775807) (j : Nat) (hj : j < 6) (hv : ∀ i, i < j → 0 ≤ (rz k q p t c g) i ∧ (rz k q p t c g) i < 2 ^ (shr (i + 1) - shr i).toNat) (hx : ¬ (0 ≤ (rz k q p t c g) j ∧ (rz k q p t c g) j < 2 ^ (shr (j + 1) - shr j).toNat)) :
    Calls Try.prog 78 #[.agg #[.int .i64 k, .int .i64 q, .int .i64 p, .int .i64 t, .int .i64 c, .int .i64 g]] w ((PackBad j w)) := by
  have HB := Lib.hid hb
  have HP := Lib.hid (fun (cs : Array Value) (hL : Lay cs 6 shr) (A : Option Addr) (cap : Nat) (W : World) (hR : RowI W A 6 (rz k q p t c g)) => show Calls Try.prog 71 #[.agg cs, .slice A 6 cap] W ((PackBad j W)) from pack_bad hL shr_steps A cap W hR j hj hv hx)
  clear hb hv hx
  have hS0 : (w.alloc (Obj.cells #[.int .i64 k, .int .i64 q, .int .i64 p, .int .i64 t, .int .i64 c, .int .i64 g] 65)).drew.cell? ⟨w.heap.size, 0, none⟩ = some (.int .i64 k) ∧ (w.alloc (Obj.cells #[.int .i64 k, .int .i64 q, .int .i64 p, .int .i64 t, .int .i64 c, .int .i64 g] 65)).drew.cell? ⟨w.heap.size, 1, none⟩ = some (.int .i64 q) ∧ (w.alloc (Obj.cells #[.int .i64 k, .int .i64 q, .int .i64 p, .int .i64 t, .int .i64 c, .int .i64 g] 65)).drew.cell? ⟨w.heap.size, 2, none⟩ = some (.int .i64 p) ∧ (w.alloc (Obj.cells #[.int .i64 k, .int .i64 q, .int .i64 p, .int .i64 t, .int .i64 c, .int .i64 g] 65)).drew.cell? ⟨w.heap.size, 3, none⟩ = some (.int .i64 t) ∧ (w.alloc (Obj.cells #[.int .i64 k, .int .i64 q, .int .i64 p, .int .i64 t, .int .i64 c, .int .i64 g] 65)).drew.cell? ⟨w.heap.size, 4, none⟩ = some (.int .i64 c) ∧ (w.alloc (Obj.cells #[.int .i64 k, .int .i64 q, .int .i64 p, .int .i64 t, .int .i64 c, .int .i64 g] 65)).drew.cell? ⟨w.heap.size, 5, none⟩ = some (.int .i64 g) := ⟨by simp [go_sem], by simp [go_sem], by simp [go_sem], by simp [go_sem], by simp [go_sem], by simp [go_sem]⟩
  have hSb := keepWR (wx := (w.alloc (Obj.cells #[.int .i64 k, .int .i64 q, .int .i64 p, .int .i64 t, .int .i64 c, .int .i64 g] 65))) (wy := ((w.alloc (Obj.cells #[.int .i64 k, .int .i64 q, .int .i64 p, .int .i64 t, .int .i64 c, .int .i64 g] 65)).alloc (Obj.cells #[.int .i64 k, .int .i64 q, .int .i64 p, .int .i64 t, .int .i64 c, .int .i64 g] 3)).drew) hS0 (by simp only [World.size_drew, World.size_alloc]; omega) (by go_grown)
  have hrowB := row6_new (w.alloc (Obj.cells #[.int .i64 k, .int .i64 q, .int .i64 p, .int .i64 t, .int .i64 c, .int .i64 g] 65)) 3 k q p t c g (rz k q p t c g) ⟨rfl, rfl, rfl, rfl, rfl, rfl⟩ HB.out
  rw [World.size_alloc] at hrowB
  have HROW := Lib.hid hrowB
  clear hrowB
  go_enter Try.func78, Try.ntmps78
  go_wp2_with fail
  go_region_held3 (fun w' => w'.cell? ⟨w.heap.size, 0, none⟩ = some (.int .i64 k) ∧ w'.cell? ⟨w.heap.size, 1, none⟩ = some (.int .i64 q) ∧ w'.cell? ⟨w.heap.size, 2, none⟩ = some (.int .i64 p) ∧ w'.cell? ⟨w.heap.size, 3, none⟩ = some (.int .i64 t) ∧ w'.cell? ⟨w.heap.size, 4, none⟩ = some (.int .i64 c) ∧ w'.cell? ⟨w.heap.size, 5, none⟩ = some (.int .i64 g)) (first | with_reducible exact hS0 | with_reducible exact hSb | with_reducible exact hSy | with_reducible exact hSa | with_reducible exact hSz | with_reducible exact hTy | with_reducible exact hTz | fail)
    (first
      | ((with_reducible refine (layoutR _).mono ?_); rintro e wy ⟨cs, rfl, hL, hby⟩; have hSy := keepWR hS0 (by simp only [World.size_drew, World.size_alloc]; omega) hby; have hBy : Below w.heap.size w wy := Below.step (by go_grown) hby; have hly : w.heap.size < wy.heap.size := Nat.lt_of_lt_of_le (by simp only [World.size_drew, World.size_alloc]; omega) hby.size; have hSa := keepWR (wy := wy.alloc (Obj.cells #[.int .i64 k, .int .i64 q, .int .i64 p, .int .i64 t, .int .i64 c, .int .i64 g] 3)) hSy hly (by go_grown))
      | ((with_reducible refine (HP.out _ hL _ _ _ (row6_new wy 3 k q p t c g (rz k q p t c g) ⟨rfl, rfl, rfl, rfl, rfl, rfl⟩ HB.out)).mono ?_); rintro e wz ⟨v, rfl, hF, hbz⟩; have HF := Lib.hid hF; clear hF; have hSz := keepWR hSy hly (Below.step (by go_grown) hbz); have hBz : Below w.heap.size w wz := Below.step (hBy.alloc hBy.size _) hbz; have HFL := Lib.hid (HF.out.low (by rw [World.size_alloc]; omega) : AtF w wz 5 _ v))
      | ((with_reducible refine (layoutR _).mono ?_); rintro e wy ⟨cs, rfl, hL, hby⟩; have hTy := keepWR hSb (by simp only [World.size_drew, World.size_alloc]; omega) hby; have hBy : Below w.heap.size w wy := Below.step (by go_grown) hby; have hly : w.heap.size < wy.heap.size := Nat.lt_of_lt_of_le (by simp only [World.size_drew, World.size_alloc]; omega) hby.size; have HRY := Lib.hid (row_below (row_drew HROW.out) hby))
      | ((with_reducible refine (HP.out _ hL _ _ _ HRY.out).mono ?_); rintro e wz ⟨v, rfl, hF, hbz⟩; have HF := Lib.hid hF; clear hF; have hTz := keepWR hTy hly hbz; have hBz : Below w.heap.size w wz := Below.step hBy hbz; have HFL := Lib.hid (HF.out.low (by omega) : AtF w wz 5 _ v))
      | fail)
  all_goals go_wp2
  all_goals go_ret2
  all_goals exact ⟨_, rfl, HFL.out, hBz⟩
set_option maxHeartbeats 1000000 in
theorem wordR_high (k q p t c g : Int) (w : World) (h : 5 < k) : Calls Try.prog 78 #[.agg #[.int .i64 k, .int .i64 q, .int .i64 p, .int .i64 t, .int .i64 c, .int .i64 g]] w (PackBad 0 w) := by
  go_enter Try.func78, Try.ntmps78
  go_wp2_with fail
  refine (at_code _ _ _).mono ?_
  rintro e w1 ⟨v, rfl, hF, hb1⟩
  have hB1 : Below w.heap.size w w1 := Below.step (by go_grown) hb1
  have HF := Lib.hid hF
  clear hF hb1
  go_wp2
  go_ret2
  exact ⟨_, rfl, HF.out.low (by rw [World.size_alloc]; omega), hB1⟩
end Go.Proofs.Ytmjkhefgpobinaa

/-
  Contracts of record.layout and record.Word.
-/
import Derived.Test.YtnhelfepfeemhaaRows
import Derived.WalkKit
import Derived.ProofKit
import Derived.OpenShut
import Derived.ShutString
import Derived.Below
import Derived.Outline
import Derived.WalkLawsBesides
import Derived.WalkSpells
import Derived.Handy
import Derived.Deep.QuietTactic
import Derived.BigQuiet
import Derived.RegionTactic
import Derived.ChangeAlike
import Derived.Lib.Hide
import Derived.Laws.Rows
import Derived.Deep.WholeRow
import Derived.Deep.RegionHeld3
import Derived.Laws.Tables
import Derived.Laws.CopyOwn
import Derived.Deep.LoopGhost
import Derived.Laws.BitsAllLaws
import Derived.Laws.BitsLemmas
import Derived.IntWalk
import Derived.Test.YtnhelfepfeemhaaKit
import Derived.Test.YtnhelfepfeemhaaLay
namespace Go.Proofs.Ytnhelfepfeemhaa
open Go.ChangeShapes Go.WideShapes Go.ChangeAt Go.RowKit

/-- Where a record's fields begin. -/
def sh : Nat → Int
  | 0 => 0 | 1 => 3 | 2 => 19 | 3 => 35 | 4 => 55 | 5 => 60 | 6 => 64 | _ => 0
def wd : Nat → Int
  | 0 => 3 | 1 => 16 | 2 => 16 | 3 => 20 | 4 => 5 | 5 => 4 | _ => 0
theorem sh_steps : Steps 6 sh := ⟨rfl, by decide, fun k hk => by
  match k, hk with
  | 0, _ => decide
  | 1, _ => decide
  | 2, _ => decide
  | 3, _ => decide
  | 4, _ => decide
  | 5, _ => decide⟩
theorem sh_cut : (fun k => if k ≤ 6 then sh k else 0) = sh := by
  funext k
  by_cases h : k ≤ 6
  · rw [if_pos h]
  · rw [if_neg h]
    match k, h with
    | 0, h | 1, h | 2, h | 3, h | 4, h | 5, h | 6, h => exact absurd h (by decide)
    | n + 7, _ => rfl
theorem row_new (w : World) (t : TypeId) (a0 a1 a2 a3 a4 a5 : Int) (z : Nat → Int) (hz : z 0 = a0 ∧ z 1 = a1 ∧ z 2 = a2 ∧ z 3 = a3 ∧ z 4 = a4 ∧ z 5 = a5) (hb : ∀ k, k < 6 → -9223372036854775808 ≤ z k ∧ z k ≤ 9223372036854775807) :
    RowI (w.alloc (.cells #[.int .i64 a0, .int .i64 a1, .int .i64 a2, .int .i64 a3, .int .i64 a4, .int .i64 a5] t)) (some ⟨w.heap.size, 0, none⟩) 6 z := by
  obtain ⟨rfl, rfl, rfl, rfl, rfl, rfl⟩ := hz
  intro k hk
  refine ⟨w.heap.size, 0, rfl, by simp, ?_, (hb k hk).1, (hb k hk).2⟩
  match k, hk with
  | 0, _ => simp [go_sem]
  | 1, _ => simp [go_sem]
  | 2, _ => simp [go_sem]
  | 3, _ => simp [go_sem]
  | 4, _ => simp [go_sem]
  | 5, _ => simp [go_sem]
set_option maxRecDepth 100000 in
set_option maxHeartbeats 4000000 in
theorem layout25 (w : World) : Calls Try.prog 25 #[] w fun e w' => ∃ cs, e = .returned (.agg cs) ∧ Lay cs 6 sh ∧ Below w.heap.size w w' := by
  have hzero := zero70
  have hrow := row_new (w.alloc (Obj.cells Z0 70)) 3 3 16 16 20 5 4 wd ⟨rfl, rfl, rfl, rfl, rfl, rfl⟩ (fun k hk => by match k, hk with | 0, _ | 1, _ | 2, _ | 3, _ | 4, _ | 5, _ => decide)
  rw [World.size_alloc] at hrow
  have HROW := Lib.hid hrow
  clear hrow
  go_enter Try.func25, Try.ntmps25
  go_wp2_with fail
  refine (new_ok _ 6 6 wd sh _ HROW.out sh_steps (fun k hk => by match k, hk with | 0, _ | 1, _ | 2, _ | 3, _ | 4, _ | 5, _ => rfl)).mono ?_
  rintro e w1 ⟨cs, rfl, hL, hb1⟩
  rw [sh_cut] at hL
  have hB1 : Below w.heap.size w w1 := Below.step (by go_grown) hb1
  have hz1 := hb1.size
  simp only [World.size_alloc] at hz1
  have hlt : w.heap.size < w1.heap.size := by omega
  have h0 : w1.heap[w.heap.size]? = some (.cells Z0 70 (0, 0)) := (hb1.block w.heap.size (by simp only [World.size_alloc]; omega)).trans ((Below.heap_alloc _ _ _ (by simp)).trans (heap_alloc_new w _))
  have HSZ := Lib.hid (lay_info hL)
  have HZS := Lib.hid (show Z0.size = cs.size from by rw [hL.size]; rfl)
  have HON := Lib.hid hL.one
  have g1 := heap_alloc_new w1 (Obj.cells Z0 70)
  have g2 := heap_setRow _ _ _ _ cs g1
  have g3 : ((w1.alloc (Obj.cells Z0 70)).setRow w1.heap.size cs).heap[w.heap.size]? = some (.cells Z0 70 (0, 0)) := by
    rw [World.setRow_alloc_new]
    exact (Below.heap_alloc _ _ _ hlt).trans h0
  have g4 := heap_setRow _ _ _ _ cs g3
  have HG1 := Lib.hid g1
  have HG2 := Lib.hid g2
  have HG3 := Lib.hid g3
  have HG4 := Lib.hid g4
  have HL := Lib.hid hL
  clear g1 g2 g3 g4 hL h0 hb1
  go_wp2_with (first | (refine wpList_store_row rfl 70 _ _ rfl w1.heap.size cs rfl rfl 70 Z0 HG1.out HSZ.out HZS.out HON.out ?_) | (refine wpList_load_row rfl 70 _ rfl w1.heap.size rfl 70 _ (0, 0) _ HG2.out Try.underlying70 rfl HSZ.out ?_) | (refine wpList_store_row rfl 70 _ _ rfl w.heap.size cs rfl rfl 70 Z0 HG3.out HSZ.out HZS.out HON.out ?_))
  refine bodyPost_ret (results_cell_row rfl _ _ w.heap.size 70 _ (0, 0) _ rfl HG4.out Try.underlying70 rfl HSZ.out) rfl ?_
  exact ⟨cs, rfl, HL.out, below_setRow (below_setRow (hB1.alloc hB1.size _) hB1.size _) (Nat.le_refl _) _⟩

def rz (k q p t c g : Int) : Nat → Int
  | 0 => k | 1 => q | 2 => p | 3 => t | 4 => c | 5 => g | _ => 0
def RFits (z : Nat → Int) : Prop := ∀ k, k < 6 → 0 ≤ z k ∧ z k < 2 ^ (sh (k + 1) - sh k).toNat
/-- What Pack answers at a record's layout. -/
def PackSays (z : Nat → Int) (x : Int) (y : Value) : Prop := (RFits z ∧ x = word sh z 6 ∧ y = .nilIface) ∨ ∃ T v, y = .iface T v
theorem least (P : Nat → Prop) [DecidablePred P] (n : Nat) (h : ¬ ∀ k, k < n → P k) : ∃ j, j < n ∧ (∀ k, k < j → P k) ∧ ¬ P j := by
  induction n with
  | zero => exact absurd (fun k hk => absurd hk (Nat.not_lt_zero k)) h
  | succ n ih =>
    by_cases h1 : ∀ k, k < n → P k
    · refine ⟨n, Nat.lt_succ_self n, h1, fun hp => h fun k hk => ?_⟩
      rcases Nat.lt_or_ge k n with h2 | h2
      · exact h1 k h2
      · rw [show k = n by omega]; exact hp
    · obtain ⟨j, hj, h2, h3⟩ := ih h1
      exact ⟨j, by omega, h2, h3⟩
theorem packR {cs : Array Value} {z : Nat → Int} (hL : Lay cs 6 sh) (A : Option Addr) (cap : Nat) (W : World) (hR : RowI W A 6 z) :
    Calls Try.prog 26 #[.agg cs, .slice A 6 cap] W fun e w' => ∃ x y, e = .returned (.tuple #[.int .u64 x, y]) ∧ PackSays z x y ∧ Below W.heap.size W w' := by
  by_cases hf : ∀ k, k < 6 → (0 ≤ z k ∧ z k < 2 ^ (sh (k + 1) - sh k).toNat)
  · exact (pack_ok hL sh_steps A cap W hR hf).mono fun e w' ⟨he, hb⟩ => ⟨_, _, he, .inl ⟨hf, rfl, rfl⟩, hb⟩
  · obtain ⟨j, hj, h1, h2⟩ := least (fun k => 0 ≤ z k ∧ z k < 2 ^ (sh (k + 1) - sh k).toNat) 6 hf
    exact (pack_bad hL sh_steps A cap W hR j hj h1 h2).mono fun e w' ⟨T, v, he, hb⟩ => ⟨_, _, he, .inr ⟨T, v, rfl⟩, hb⟩
theorem row_below {A : Option Addr} {m : Nat} {z : Nat → Int} {w w' : World} (h : RowI w A m z) (hb : Below w.heap.size w w') : RowI w' A m z := fun k hk => by
  obtain ⟨g, off, e, hg, hc, h1, h2⟩ := h k hk
  exact ⟨g, off, e, Nat.lt_of_lt_of_le hg hb.size, (hb.cell (p := ⟨g, off + k, none⟩) hg).trans hc, h1, h2⟩
theorem row_drew {A : Option Addr} {m : Nat} {z : Nat → Int} {w : World} (h : RowI w A m z) : RowI w.drew A m z := h
theorem keep6 {B : Nat} {v0 v1 v2 v3 v4 v5 : Value} {wx wy : World} (h : wx.cell? ⟨B, 0, none⟩ = some v0 ∧ wx.cell? ⟨B, 1, none⟩ = some v1 ∧ wx.cell? ⟨B, 2, none⟩ = some v2 ∧ wx.cell? ⟨B, 3, none⟩ = some v3 ∧ wx.cell? ⟨B, 4, none⟩ = some v4 ∧ wx.cell? ⟨B, 5, none⟩ = some v5) (hs : B < wx.heap.size) (hb : Below wx.heap.size wx wy) :
    wy.cell? ⟨B, 0, none⟩ = some v0 ∧ wy.cell? ⟨B, 1, none⟩ = some v1 ∧ wy.cell? ⟨B, 2, none⟩ = some v2 ∧ wy.cell? ⟨B, 3, none⟩ = some v3 ∧ wy.cell? ⟨B, 4, none⟩ = some v4 ∧ wy.cell? ⟨B, 5, none⟩ = some v5 := by
  have e : ∀ o, wy.cell? ⟨B, o, none⟩ = wx.cell? ⟨B, o, none⟩ := fun o => hb.cell (p := ⟨B, o, none⟩) hs
  exact ⟨(e 0).trans h.1, (e 1).trans h.2.1, (e 2).trans h.2.2.1, (e 3).trans h.2.2.2.1, (e 4).trans h.2.2.2.2.1, (e 5).trans h.2.2.2.2.2⟩
/-- What Word answers of a record. -/
def WordSays (z : Nat → Int) (x : Int) (y : Value) : Prop := (z 0 ≤ 5 ∧ RFits z ∧ x = word sh z 6 ∧ y = .nilIface) ∨ ∃ T v, y = .iface T v
set_option maxRecDepth 100000 in
set_option maxHeartbeats 4000000 in
theorem word_high (k q p t c g : Int) (w : World) (h : 5 < k) : Calls Try.prog 20 #[.agg #[.int .i64 k, .int .i64 q, .int .i64 p, .int .i64 t, .int .i64 c, .int .i64 g]] w fun e w' => ∃ x y, e = .returned (.tuple #[.int .u64 x, y]) ∧ WordSays (rz k q p t c g) x y ∧ Below w.heap.size w w' := by
  go_enter Try.func20, Try.ntmps20
  go_wp2
  go_ret2
  exact ⟨_, _, rfl, .inr ⟨_, _, rfl⟩, by go_grown⟩
set_option maxRecDepth 100000 in
set_option maxHeartbeats 4000000 in
theorem word_low (k q p t c g : Int) (w : World) (h : k ≤ 5) (hb : ∀ j, j < 6 → -9223372036854775808 ≤ rz k q p t c g j ∧ rz k q p t c g j ≤ 9223372036854775807) : Calls Try.prog 20 #[.agg #[.int .i64 k, .int .i64 q, .int .i64 p, .int .i64 t, .int .i64 c, .int .i64 g]] w fun e w' => ∃ x y, e = .returned (.tuple #[.int .u64 x, y]) ∧ WordSays (rz k q p t c g) x y ∧ Below w.heap.size w w' := by
  have HB := Lib.hid hb
  clear hb
  have hS0 : (w.alloc (Obj.cells #[.int .i64 k, .int .i64 q, .int .i64 p, .int .i64 t, .int .i64 c, .int .i64 g] 39)).drew.cell? ⟨w.heap.size, 0, none⟩ = some (.int .i64 k) ∧ (w.alloc (Obj.cells #[.int .i64 k, .int .i64 q, .int .i64 p, .int .i64 t, .int .i64 c, .int .i64 g] 39)).drew.cell? ⟨w.heap.size, 1, none⟩ = some (.int .i64 q) ∧ (w.alloc (Obj.cells #[.int .i64 k, .int .i64 q, .int .i64 p, .int .i64 t, .int .i64 c, .int .i64 g] 39)).drew.cell? ⟨w.heap.size, 2, none⟩ = some (.int .i64 p) ∧ (w.alloc (Obj.cells #[.int .i64 k, .int .i64 q, .int .i64 p, .int .i64 t, .int .i64 c, .int .i64 g] 39)).drew.cell? ⟨w.heap.size, 3, none⟩ = some (.int .i64 t) ∧ (w.alloc (Obj.cells #[.int .i64 k, .int .i64 q, .int .i64 p, .int .i64 t, .int .i64 c, .int .i64 g] 39)).drew.cell? ⟨w.heap.size, 4, none⟩ = some (.int .i64 c) ∧ (w.alloc (Obj.cells #[.int .i64 k, .int .i64 q, .int .i64 p, .int .i64 t, .int .i64 c, .int .i64 g] 39)).drew.cell? ⟨w.heap.size, 5, none⟩ = some (.int .i64 g) := ⟨by simp [go_sem], by simp [go_sem], by simp [go_sem], by simp [go_sem], by simp [go_sem], by simp [go_sem]⟩
  have hSb := keep6 (wx := w.alloc (Obj.cells #[.int .i64 k, .int .i64 q, .int .i64 p, .int .i64 t, .int .i64 c, .int .i64 g] 39)) (wy := ((w.alloc (Obj.cells #[.int .i64 k, .int .i64 q, .int .i64 p, .int .i64 t, .int .i64 c, .int .i64 g] 39)).alloc (Obj.cells #[.int .i64 k, .int .i64 q, .int .i64 p, .int .i64 t, .int .i64 c, .int .i64 g] 3)).drew) hS0 (by simp only [World.size_drew, World.size_alloc]; omega) (by go_grown)
  have hrowB := row_new (w.alloc (Obj.cells #[.int .i64 k, .int .i64 q, .int .i64 p, .int .i64 t, .int .i64 c, .int .i64 g] 39)) 3 k q p t c g (rz k q p t c g) ⟨rfl, rfl, rfl, rfl, rfl, rfl⟩ HB.out
  rw [World.size_alloc] at hrowB
  have HROW := Lib.hid hrowB
  clear hrowB
  go_enter Try.func20, Try.ntmps20
  go_wp2_with fail
  go_region_held3 (fun w' => w'.cell? ⟨w.heap.size, 0, none⟩ = some (.int .i64 k) ∧ w'.cell? ⟨w.heap.size, 1, none⟩ = some (.int .i64 q) ∧ w'.cell? ⟨w.heap.size, 2, none⟩ = some (.int .i64 p) ∧ w'.cell? ⟨w.heap.size, 3, none⟩ = some (.int .i64 t) ∧ w'.cell? ⟨w.heap.size, 4, none⟩ = some (.int .i64 c) ∧ w'.cell? ⟨w.heap.size, 5, none⟩ = some (.int .i64 g)) (first | exact hS0 | exact hSb | exact hSy | exact hSa | exact hSz | exact hTy | exact hTz | fail)
    (first
      | ((with_reducible refine (layout25 _).mono ?_); rintro e wy ⟨cs, rfl, hL, hby⟩; have hSy := keep6 hS0 (by simp only [World.size_drew, World.size_alloc]; omega) hby; have hBy : Below w.heap.size w wy := Below.step (by go_grown) hby; have hly : w.heap.size < wy.heap.size := Nat.lt_of_lt_of_le (by simp only [World.size_drew, World.size_alloc]; omega) hby.size; have hSa := keep6 (wy := wy.alloc (Obj.cells #[.int .i64 k, .int .i64 q, .int .i64 p, .int .i64 t, .int .i64 c, .int .i64 g] 3)) hSy hly (by go_grown))
      | ((with_reducible refine (packR hL _ _ _ (row_new wy 3 k q p t c g (rz k q p t c g) ⟨rfl, rfl, rfl, rfl, rfl, rfl⟩ HB.out)).mono ?_); rintro e wz ⟨x, y, rfl, hP, hbz⟩; have hSz := keep6 hSy hly (Below.step (by go_grown) hbz); have hBz : Below w.heap.size w wz := Below.step (hBy.alloc hBy.size _) hbz)
      | ((with_reducible refine (layout25 _).mono ?_); rintro e wy ⟨cs, rfl, hL, hby⟩; have hTy := keep6 hSb (by simp only [World.size_drew, World.size_alloc]; omega) hby; have hBy : Below w.heap.size w wy := Below.step (by go_grown) hby; have hly : w.heap.size < wy.heap.size := Nat.lt_of_lt_of_le (by simp only [World.size_drew, World.size_alloc]; omega) hby.size; have HRY := Lib.hid (row_below (row_drew HROW.out) hby))
      | ((with_reducible refine (packR hL _ _ _ HRY.out).mono ?_); rintro e wz ⟨x, y, rfl, hP, hbz⟩; have hTz := keep6 hTy hly hbz; have hBz : Below w.heap.size w wz := Below.step hBy hbz)
      | fail)
  all_goals go_wp2
  all_goals go_ret2
  all_goals refine ⟨_, _, rfl, ?_, hBz⟩
  all_goals rcases hP with ⟨a1, a2, a3⟩ | a
  all_goals first | exact .inl ⟨h, a1, a2, a3⟩ | exact .inr a
end Go.Proofs.Ytnhelfepfeemhaa

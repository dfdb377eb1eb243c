/-
  Contracts of field.Get and field.All.
-/
import Derived.Test.YtjkojbaphdlhlaaDoorRows
import Derived.WalkKit
import Derived.ProofKit
import Derived.OpenShut
import Derived.ShutString
import Derived.Below
import Derived.Outline
import Derived.WalkLawsBesides
import Derived.WalkSpells
import Derived.Handy
import Derived.Deep.QuietTactic
import Derived.BigQuiet
import Derived.RegionTactic
import Derived.ChangeAlike
import Derived.Lib.Hide
import Derived.Laws.Rows
import Derived.Laws.Tables
import Derived.Laws.CopyOwn
import Derived.Deep.WholeRow
import Derived.Deep.LoopGhost
import Derived.Laws.BitsAllLaws
import Derived.Laws.BitsLemmas
import Derived.IntWalk
import Derived.Test.YtjkojbaphdlhlaaDoorKit
import Derived.Laws.MakeOwn
import Derived.Laws.Entries
import Derived.Test.YtjkojbaphdlhlaaDoorFpAny
namespace Go.Proofs.YtjkojbaphdlhlaaDoor.Fp
set_option linter.unusedVariables false
set_option linter.unusedSimpArgs false
open Go.ChangeShapes Go.WideShapes Go.ChangeAt Go.RowKit
theorem quiet_row {P : Program} {o : Oper} {a : Act} {C : World → Prop} {w : World} (ty : TypeId) (x : Operand) (ho : o.op = .load ty x)
    (g : Nat) (hx : a.eval x = .pointer (some ⟨g, 0, none⟩)) (t : TypeId) (cs : Array Value) (fr : Nat × Nat) (d : TypeDesc) (hg : w.heap[g]? = some (.cells cs t fr))
    (hu : P.underlying ty = some d) (hd : (match d with | .struct _ | .array _ _ => true | _ => false) = true) (hi : (P.info? ty).map (·.size) = some cs.size) : o.quietAt P a C w (.agg cs) := by
  unfold Oper.quietAt execOp
  simp only [ho, hx, Instr.loadAt, Instr.sureAddr, Sem.run_bind, Sem.run_pure, Result.andThen_ok, run_loadVar_row w g t ty cs fr d hg hu hd hi]
  exact ⟨rfl, rfl⟩
/-- What the loads read: a block that holds a layout. -/
def Cb (w : World) (B : Nat) (cs : Array Value) (wx : World) : Prop := wx.heap[B]? = some (.cells cs 28 (0, 0)) ∧ Below w.heap.size w wx
theorem Cb.below {w wx wy : World} {B : Nat} {cs : Array Value} (h : Cb w B cs wx) (hb : Below wx.heap.size wx wy) : Cb w B cs wy := ⟨(hb.block B (blk_lt h.1)).trans h.1, Below.step h.2 hb⟩
theorem call_cb {w wx : World} {B : Nat} {cs : Array Value} {fn : FuncId} {args : Array Value} {v : Value} (hT : ∀ W, Calls Tryd.prog fn args W fun e w' => e = .returned v ∧ Below W.heap.size W w') (h : Cb w B cs wx) : Calls Tryd.prog fn args wx fun e w' => e = .returned v ∧ Cb w B cs w' :=
  (hT wx).mono fun _ _ ⟨he, hb⟩ => ⟨he, h.below hb⟩
theorem region_cb {P : Program} {id : Nat} {Q : Exit → Act → World → Prop} {a : Act} {w W : World} {B : Nat} {cs : Array Value} {l' : List Oper} (hm : P.follows .mixedOrders = true) (hB : Region.lexB .any l'.toArray = true) (hC : Cb w B cs W.drew)
    (h : wpQuiet P l'.toArray (Cb w B cs) (fun a' => ∀ w', Cb w B cs w' → Q .normal a' w') l' a) : (Code.region id l'.toArray true).wp P Q a W := wp_region_quiet (C := Cb w B cs) hm hB hC (by simpa using h)
/-- A field of a word. -/
def fld (s : Nat → Int) (x : Nat) (k : Nat) : Int := ((x / 2 ^ (s k).toNat % 2 ^ (s (k + 1) - s k).toNat : Nat) : Int)
theorem get_num (x : Nat) (a : Nat) (w : Nat) (hx : x < 18446744073709551616) (hw : w ≤ 32) : wrap64 (bits .and .u64 ((x : Int) / 2 ^ a) (2 ^ w - 1)) = ((x / 2 ^ a % 2 ^ w : Nat) : Int) := by
  have p := pow_bd w hw
  have e1 : ((x : Int) / 2 ^ a) = ((x / 2 ^ a : Nat) : Int) := by simp
  have e2 : ((2 : Int) ^ w - 1) = ((2 ^ w - 1 : Nat) : Int) := by
    have h1 : 1 ≤ 2 ^ w := Nat.one_le_two_pow
    have h2 : ((2 ^ w : Nat) : Int) = (2 : Int) ^ w := by simp
    omega
  have hd : x / 2 ^ a ≤ x := Nat.div_le_self _ _
  have hq : 2 ^ w - 1 < 18446744073709551616 := by
    have h2 : ((2 ^ w : Nat) : Int) = (2 : Int) ^ w := by simp
    omega
  rw [e1, e2, u64_and_nat _ _ (by omega) hq, Nat.and_two_pow_sub_one_eq_mod]
  have hm : x / 2 ^ a % 2 ^ w < 2 ^ w := Nat.mod_lt _ (Nat.two_pow_pos _)
  have h2 : ((2 ^ w : Nat) : Int) = (2 : Int) ^ w := by simp
  rw [IntWalk.wrap64_in _ (by omega)]
set_option maxRecDepth 100000 in
set_option maxHeartbeats 4000000 in
theorem get43 {cs : Array Value} {n : Nat} {s : Nat → Int} (hL : Lay cs n s) (hS : Steps n s) (x k : Nat) (hx : x < 18446744073709551616) (hk : k < n) (w : World) :
    Calls Tryd.prog 16 #[.agg cs, .int .u64 (x : Int), .int .i64 (k : Int)] w fun e w' => e = .returned (.int .i64 (fld s x k)) ∧ Below w.heap.size w w' := by
  obtain ⟨s0, s1, s2, s3⟩ := hS.2.2 k hk
  have hn := hS.2.1
  have HSZ := Lib.hid (lay_info hL)
  have HA := Lib.hid (heap_alloc_new w (.cells cs 28))
  have HM := Lib.hid (fun W => most_yes hL k W hk hn s0 s1 s2 s3)
  have HG := Lib.hid (get_num x (s k).toNat (s (k + 1) - s k).toNat hx (by omega))
  have HL := Lib.hid hL
  have i0 : (0 : Int) ≤ (k : Int) := Int.natCast_nonneg k
  have i1 : (k : Int) < 65 := by omega
  have x0 : (0 : Int) ≤ (x : Int) := Int.natCast_nonneg x
  clear hS
  go_enter Tryd.func16, Tryd.ntmps16
  go_wp2_with (refine wpList_load_row rfl 28 _ rfl w.heap.size rfl 28 _ (0, 0) _ HA.out Tryd.underlying28 rfl HSZ.out ?_)
  refine (has_yes HL.out k _ (by omega) (by omega) hn).mono ?_
  rintro e w1 ⟨rfl, hb1⟩
  have hB1 : Below w.heap.size w w1 := Below.step (by go_grown) hb1
  have hK : Cb w w.heap.size cs w1.drew := ⟨(hb1.block w.heap.size (by simp)).trans HA.out, Below.drew hB1⟩
  clear hb1 hL
  go_wp2_with fail
  refine region_cb (by kernel_rfl) (by kernel_rfl) hK ?_
  clear hK
  iterate 4 (first | go_big_quiet_skip | (go_big_quiet_want; go_big_quiet_op; first | go_big_quiet_on | (refine ⟨_, fun _ _ => rfl, ?_⟩; go_big_quiet_on)))
  go_big_quiet_want
  refine ⟨.int .u8 (s k), fun wq hq => ?_, ?_⟩
  · have c1 : wq.cell? ⟨w.heap.size, 1 + k, none⟩ = some (.int .u8 (s k)) := by rw [cell_of_row _ _ _ _ _ _ hq.1]; exact HL.out.at_ k (by omega)
    unfold Oper.quietAt
    simp [go_sem, c1, Oper.quietUpon]
  simp only [Act.put, List.setIfInBounds_toArray, List.set_cons_zero, List.set_cons_succ]
  go_big_quiet_on
  iterate 1 (first | go_big_quiet_skip | (go_big_quiet_want; go_big_quiet_op; first | go_big_quiet_on | (refine ⟨_, fun _ _ => rfl, ?_⟩; go_big_quiet_on)))
  go_big_quiet_want
  refine ⟨.agg cs, fun wq hq => quiet_row 28 _ rfl w.heap.size rfl 28 cs (0, 0) _ hq.1 Tryd.underlying28 rfl HSZ.out, ?_⟩
  simp only [Act.put, List.setIfInBounds_toArray, List.set_cons_zero, List.set_cons_succ]
  go_big_quiet_on
  iterate 1 (first | go_big_quiet_skip | (go_big_quiet_want; go_big_quiet_op; first | go_big_quiet_on | (refine ⟨_, fun _ _ => rfl, ?_⟩; go_big_quiet_on)))
  go_big_quiet_want
  go_big_quiet_op
  refine ⟨_, fun wq hq => call_cb HM.out hq, ?_⟩
  go_big_quiet_on
  iterate 3 (first | go_big_quiet_skip | (go_big_quiet_want; go_big_quiet_op; first | go_big_quiet_on | (refine ⟨_, fun _ _ => rfl, ?_⟩; go_big_quiet_on)))
  refine wpQuiet_nil ?_
  intro wz hz
  have hBz := hz.2
  go_wp2
  go_ret
  exact ⟨by unfold fld; rw [← HG.out]; rfl, hBz⟩
theorem fld_fit {n : Nat} {s : Nat → Int} (x k : Nat) : 0 ≤ fld s x k ∧ fld s x k < 2 ^ (s (k + 1) - s k).toNat := by
  have hm : x / 2 ^ (s k).toNat % 2 ^ (s (k + 1) - s k).toNat < 2 ^ (s (k + 1) - s k).toNat := Nat.mod_lt _ (Nat.two_pow_pos _)
  have h2 : ((2 ^ (s (k + 1) - s k).toNat : Nat) : Int) = (2 : Int) ^ (s (k + 1) - s k).toNat := by simp
  unfold fld
  omega
theorem fld_bd {n : Nat} {s : Nat → Int} (hS : Steps n s) (x : Nat) : ∀ k, k < n → 0 ≤ fld s x k ∧ fld s x k ≤ 4294967296 := fun k hk => by
  have h1 := fld_fit (n := n) (s := s) x k
  have h2 := hS.2.2 k hk
  have h3 := pow_bd (s (k + 1) - s k).toNat (by omega)
  omega
theorem word_fld {n : Nat} {s : Nat → Int} (hS : Steps n s) (x : Nat) : ∀ k, k ≤ n → word s (fld s x) k = x % 2 ^ (s k).toNat := by
  intro k
  induction k with
  | zero => intro _; rw [hS.1]; simp [word, Nat.mod_one]
  | succ k ih =>
    intro hk
    obtain ⟨s0, s1, s2, s3⟩ := hS.2.2 k (by omega)
    have e : (s (k + 1)).toNat = (s k).toNat + (s (k + 1) - s k).toNat := by omega
    show word s (fld s x) k + (fld s x k).toNat * 2 ^ (s k).toNat = _
    rw [ih (by omega), e, Nat.pow_add, Nat.mod_mul]
    have e2 : (fld s x k).toNat = x / 2 ^ (s k).toNat % 2 ^ (s (k + 1) - s k).toNat := by unfold fld; rw [Int.toNat_natCast]
    rw [e2, Nat.mul_comm]
end Go.Proofs.YtjkojbaphdlhlaaDoor.Fp

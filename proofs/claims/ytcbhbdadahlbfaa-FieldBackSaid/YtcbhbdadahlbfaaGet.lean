/-
  Contracts of field.Get and field.All.
-/
import Derived.Test.YtcbhbdadahlbfaaRows
import Derived.WalkKit
import Derived.ProofKit
import Derived.OpenShut
import Derived.ShutString
import Derived.Below
import Derived.Outline
import Derived.WalkLawsBesides
import Derived.WalkSpells
import Derived.Handy
import Derived.Deep.QuietTactic
import Derived.BigQuiet
import Derived.RegionTactic
import Derived.ChangeAlike
import Derived.Lib.Hide
import Derived.Laws.Rows
import Derived.Laws.Tables
import Derived.Laws.CopyOwn
import Derived.Deep.WholeRow
import Derived.Deep.LoopGhost
import Derived.Laws.BitsAllLaws
import Derived.Laws.BitsLemmas
import Derived.IntWalk
import Derived.Test.YtcbhbdadahlbfaaKit
import Derived.Laws.MakeOwn
import Derived.Laws.Entries
import Derived.Test.YtcbhbdadahlbfaaApartW
namespace Go.Proofs.Ytcbhbdadahlbfaa
open Go.ChangeShapes Go.WideShapes Go.ChangeAt Go.RowKit
open Go.Proofs.Ytcbhbdadahlbfaa.fieldApart
theorem quiet_row {P : Program} {o : Oper} {a : Act} {C : World → Prop} {w : World} (ty : TypeId) (x : Operand) (ho : o.op = .load ty x)
    (g : Nat) (hx : a.eval x = .pointer (some ⟨g, 0, none⟩)) (t : TypeId) (cs : Array Value) (fr : Nat × Nat) (d : TypeDesc) (hg : w.heap[g]? = some (.cells cs t fr))
    (hu : P.underlying ty = some d) (hd : (match d with | .struct _ | .array _ _ => true | _ => false) = true) (hi : (P.info? ty).map (·.size) = some cs.size) : o.quietAt P a C w (.agg cs) := by
  unfold Oper.quietAt execOp
  simp only [ho, hx, Instr.loadAt, Instr.sureAddr, Sem.run_bind, Sem.run_pure, Result.andThen_ok, run_loadVar_row w g t ty cs fr d hg hu hd hi]
  exact ⟨rfl, rfl⟩
/-- What the loads read: a block that holds a layout. -/
def Cb (w : World) (B : Nat) (cs : Array Value) (wx : World) : Prop := wx.heap[B]? = some (.cells cs 28 (0, 0)) ∧ Below w.heap.size w wx
theorem Cb.below {w wx wy : World} {B : Nat} {cs : Array Value} (h : Cb w B cs wx) (hb : Below wx.heap.size wx wy) : Cb w B cs wy := ⟨(hb.block B (blk_lt h.1)).trans h.1, Below.step h.2 hb⟩
theorem call_cb {w wx : World} {B : Nat} {cs : Array Value} {fn : FuncId} {args : Array Value} {v : Value} (hT : ∀ W, Calls Try.prog fn args W fun e w' => e = .returned v ∧ Below W.heap.size W w') (h : Cb w B cs wx) : Calls Try.prog fn args wx fun e w' => e = .returned v ∧ Cb w B cs w' :=
  (hT wx).mono fun _ _ ⟨he, hb⟩ => ⟨he, h.below hb⟩
theorem region_cb {P : Program} {id : Nat} {Q : Exit → Act → World → Prop} {a : Act} {w W : World} {B : Nat} {cs : Array Value} {l' : List Oper} (hm : P.follows .mixedOrders = true) (hB : Region.lexB .any l'.toArray = true) (hC : Cb w B cs W.drew)
    (h : wpQuiet P l'.toArray (Cb w B cs) (fun a' => ∀ w', Cb w B cs w' → Q .normal a' w') l' a) : (Code.region id l'.toArray true).wp P Q a W := wp_region_quiet (C := Cb w B cs) hm hB hC (by simpa using h)
/-- A field of a word. -/
def fld (s : Nat → Int) (x : Nat) (k : Nat) : Int := ((x / 2 ^ (s k).toNat % 2 ^ (s (k + 1) - s k).toNat : Nat) : Int)
theorem get_num (x : Nat) (a : Nat) (w : Nat) (hx : x < 18446744073709551616) (hw : w ≤ 32) : wrap64 (bits .and .u64 ((x : Int) / 2 ^ a) (2 ^ w - 1)) = ((x / 2 ^ a % 2 ^ w : Nat) : Int) := by
  have p := pow_bd w hw
  have e1 : ((x : Int) / 2 ^ a) = ((x / 2 ^ a : Nat) : Int) := by simp
  have e2 : ((2 : Int) ^ w - 1) = ((2 ^ w - 1 : Nat) : Int) := by
    have h1 : 1 ≤ 2 ^ w := Nat.one_le_two_pow
    have h2 : ((2 ^ w : Nat) : Int) = (2 : Int) ^ w := by simp
    omega
  have hd : x / 2 ^ a ≤ x := Nat.div_le_self _ _
  have hq : 2 ^ w - 1 < 18446744073709551616 := by
    have h2 : ((2 ^ w : Nat) : Int) = (2 : Int) ^ w := by simp
    omega
  rw [e1, e2, u64_and_nat _ _ (by omega) hq, Nat.and_two_pow_sub_one_eq_mod]
  have hm : x / 2 ^ a % 2 ^ w < 2 ^ w := Nat.mod_lt _ (Nat.two_pow_pos _)
  have h2 : ((2 ^ w : Nat) : Int) = (2 : Int) ^ w := by simp
  rw [IntWalk.wrap64_in _ (by omega)]
set_option maxRecDepth 100000 in
set_option maxHeartbeats 4000000 in
theorem get43 {cs : Array Value} {n : Nat} {s : Nat → Int} (hL : Lay cs n s) (hS : Steps n s) (x k : Nat) (hx : x < 18446744073709551616) (hk : k < n) (w : World) :
    Calls Try.prog 43 #[.agg cs, .int .u64 (x : Int), .int .i64 (k : Int)] w fun e w' => e = .returned (.int .i64 (fld s x k)) ∧ Below w.heap.size w w' := by
  obtain ⟨s0, s1, s2, s3⟩ := hS.2.2 k hk
  have hn := hS.2.1
  have HSZ := Lib.hid (lay_info hL)
  have HA := Lib.hid (heap_alloc_new w (.cells cs 28))
  have HM := Lib.hid (fun W => most_yes hL k W hk hn s0 s1 s2 s3)
  have HG := Lib.hid (get_num x (s k).toNat (s (k + 1) - s k).toNat hx (by omega))
  have HL := Lib.hid hL
  have i0 : (0 : Int) ≤ (k : Int) := Int.natCast_nonneg k
  have i1 : (k : Int) < 65 := by omega
  have x0 : (0 : Int) ≤ (x : Int) := Int.natCast_nonneg x
  clear hS
  go_enter Try.func43, Try.ntmps43
  go_wp2_with (refine wpList_load_row rfl 28 _ rfl w.heap.size rfl 28 _ (0, 0) _ HA.out Try.underlying28 rfl HSZ.out ?_)
  refine (has_yes HL.out k _ (by omega) (by omega) hn).mono ?_
  rintro e w1 ⟨rfl, hb1⟩
  have hB1 : Below w.heap.size w w1 := Below.step (by go_grown) hb1
  have hK : Cb w w.heap.size cs w1.drew := ⟨(hb1.block w.heap.size (by simp)).trans HA.out, Below.drew hB1⟩
  clear hb1 hL
  go_wp2_with fail
  refine region_cb (by kernel_rfl) (by kernel_rfl) hK ?_
  clear hK
  iterate 4 (first | go_big_quiet_skip | (go_big_quiet_want; go_big_quiet_op; first | go_big_quiet_on | (refine ⟨_, fun _ _ => rfl, ?_⟩; go_big_quiet_on)))
  go_big_quiet_want
  refine ⟨.int .u8 (s k), fun wq hq => ?_, ?_⟩
  · have c1 : wq.cell? ⟨w.heap.size, 1 + k, none⟩ = some (.int .u8 (s k)) := by rw [cell_of_row _ _ _ _ _ _ hq.1]; exact HL.out.at_ k (by omega)
    unfold Oper.quietAt
    simp [go_sem, c1, Oper.quietUpon]
  simp only [Act.put, List.setIfInBounds_toArray, List.set_cons_zero, List.set_cons_succ]
  go_big_quiet_on
  iterate 1 (first | go_big_quiet_skip | (go_big_quiet_want; go_big_quiet_op; first | go_big_quiet_on | (refine ⟨_, fun _ _ => rfl, ?_⟩; go_big_quiet_on)))
  go_big_quiet_want
  refine ⟨.agg cs, fun wq hq => quiet_row 28 _ rfl w.heap.size rfl 28 cs (0, 0) _ hq.1 Try.underlying28 rfl HSZ.out, ?_⟩
  simp only [Act.put, List.setIfInBounds_toArray, List.set_cons_zero, List.set_cons_succ]
  go_big_quiet_on
  iterate 1 (first | go_big_quiet_skip | (go_big_quiet_want; go_big_quiet_op; first | go_big_quiet_on | (refine ⟨_, fun _ _ => rfl, ?_⟩; go_big_quiet_on)))
  go_big_quiet_want
  go_big_quiet_op
  refine ⟨_, fun wq hq => call_cb HM.out hq, ?_⟩
  go_big_quiet_on
  iterate 3 (first | go_big_quiet_skip | (go_big_quiet_want; go_big_quiet_op; first | go_big_quiet_on | (refine ⟨_, fun _ _ => rfl, ?_⟩; go_big_quiet_on)))
  refine wpQuiet_nil ?_
  intro wz hz
  have hBz := hz.2
  go_wp2
  go_ret
  exact ⟨by unfold fld; rw [← HG.out]; rfl, hBz⟩
theorem run_make_rowN {P : Program} (t e : TypeId) (i : TypeInfo) (z : Value) (ht : P.underlying t = some (.slice e)) (hi : P.info? e = some i) (hz : i.zero = some z)
    (kl kc : IntKind) (n c : Nat) (hnc : n ≤ c) (hbytes : i.bytes * c ≤ 281474976710656) (h63 : c ≤ 9223372036854775807) (w : World) :
    (Instr.makeSlice t (.int kl (n : Int)) (.int kc (c : Int))).run P w = .ok (.slice (some ⟨w.heap.size, 0, none⟩) n c) (w.alloc (.cells (madeCells z.cells (c * i.size)) e)) := by
  have hb : (i.bytes : Int) * (c : Int) ≤ 281474976710656 := by
    have h : ((i.bytes * c : Nat) : Int) ≤ 281474976710656 := by omega
    rwa [Int.natCast_mul] at h
  have hr := run_make (P := P) w t e i z ht hi hz kl kc n c (by omega) (by omega) hb (by omega)
  simp only [Int.toNat_natCast] at hr
  exact hr
theorem info3 : (Try.prog.info? 3).map (fun i => (i.zero, i.size, i.bytes)) = some (some (.int .i64 0), 1, 8) := by kernel_rfl
theorem make22 (n : Nat) (hn : n ≤ 64) (W : World) : (Instr.makeSlice 22 (.int .i64 (n : Int)) (.int .i64 (n : Int))).run Try.prog W = .ok (.slice (some ⟨W.heap.size, 0, none⟩) n n) (W.alloc (.cells (madeCells (Value.int .i64 0).cells (n * 1)) 3)) := by
  obtain ⟨i0, hi, hz0, hz1, hz2⟩ := info_parts info3
  have h := run_make_rowN (P := Try.prog) 22 3 i0 (.int .i64 0) Try.underlying22 hi hz0 .i64 .i64 n n (Nat.le_refl _) (by rw [hz2]; omega) (by omega) W
  rw [hz1] at h
  exact h
theorem fld_fit {n : Nat} {s : Nat → Int} (x k : Nat) : 0 ≤ fld s x k ∧ fld s x k < 2 ^ (s (k + 1) - s k).toNat := by
  have hm : x / 2 ^ (s k).toNat % 2 ^ (s (k + 1) - s k).toNat < 2 ^ (s (k + 1) - s k).toNat := Nat.mod_lt _ (Nat.two_pow_pos _)
  have h2 : ((2 ^ (s (k + 1) - s k).toNat : Nat) : Int) = (2 : Int) ^ (s (k + 1) - s k).toNat := by simp
  unfold fld
  omega
theorem fld_bd {n : Nat} {s : Nat → Int} (hS : Steps n s) (x : Nat) : ∀ k, k < n → 0 ≤ fld s x k ∧ fld s x k ≤ 4294967296 := fun k hk => by
  have h1 := fld_fit (n := n) (s := s) x k
  have h2 := hS.2.2 k hk
  have h3 := pow_bd (s (k + 1) - s k).toNat (by omega)
  omega
theorem word_fld {n : Nat} {s : Nat → Int} (hS : Steps n s) (x : Nat) : ∀ k, k ≤ n → word s (fld s x) k = x % 2 ^ (s k).toNat := by
  intro k
  induction k with
  | zero => intro _; rw [hS.1]; simp [word, Nat.mod_one]
  | succ k ih =>
    intro hk
    obtain ⟨s0, s1, s2, s3⟩ := hS.2.2 k (by omega)
    have e : (s (k + 1)).toNat = (s k).toNat + (s (k + 1) - s k).toNat := by omega
    show word s (fld s x) k + (fld s x k).toNat * 2 ^ (s k).toNat = _
    rw [ih (by omega), e, Nat.pow_add, Nat.mod_mul]
    have e2 : (fld s x k).toNat = x / 2 ^ (s k).toNat % 2 ^ (s (k + 1) - s k).toNat := by unfold fld; rw [Int.toNat_natCast]
    rw [e2, Nat.mul_comm]
set_option maxRecDepth 100000 in
set_option maxHeartbeats 4000000 in
theorem all13 {cs : Array Value} {n : Nat} {s : Nat → Int} (hL : Lay cs n s) (hS : Steps n s) (x : Nat) (hx : x < 18446744073709551616) (w : World) :
    Calls Try.prog 13 #[.agg cs, .int .u64 (x : Int)] w fun e w' => ∃ B, e = .returned (.slice (some ⟨B, 0, none⟩) n n) ∧ RowI w' (some ⟨B, 0, none⟩) n (fld s x) ∧ Below w.heap.size w w' := by
  have hn := hS.2.1
  have hmk := make22 n hn
  have c0 := lay_cell w 0 _ hL.cnt
  have HSZ := Lib.hid (lay_info hL)
  have HA := Lib.hid (heap_alloc_new w (.cells cs 28))
  have HL := Lib.hid hL
  have HS := Lib.hid hS
  clear hL hS
  go_enter Try.func13, Try.ntmps13
  go_wp2_with fail
  have g0 : ((w.alloc (Obj.cells cs 28)).alloc (Obj.cells (madeCells #[Value.int .i64 0] n) 3)).heap[w.heap.size]? = some (.cells cs 28 (0, 0)) := (Below.heap_alloc _ _ _ (by simp)).trans HA.out
  have g1 : ((w.alloc (Obj.cells cs 28)).alloc (Obj.cells (madeCells #[Value.int .i64 0] n) 3)).heap[w.heap.size + 1]? = some (.cells (madeCells #[Value.int .i64 0] n) 3 (0, 0)) := by
    have := heap_alloc_new (w.alloc (Obj.cells cs 28)) (Obj.cells (madeCells #[Value.int .i64 0] n) 3)
    rw [World.size_alloc] at this
    exact this
  go_loopw [12] (fun i wr => ∃ (k : Nat) (ca : Array Value), k ≤ n ∧ i = .int .i64 k ∧ Hid (wr.heap[w.heap.size]? = some (.cells cs 28 (0, 0))) ∧ Hid (wr.heap[w.heap.size + 1]? = some (.cells ca 3 (0, 0))) ∧ Hid (ca.size = n) ∧ Hid (∀ j, j < k → ca[j]? = some (.int .i64 (fld s x j))) ∧ Below w.heap.size w wr) (fun i _ => n - (intOf i).toNat)
  case atStart => exact ⟨0, _, Nat.zero_le _, rfl, g0, g1, size_madeCells _ _, fun j hj => absurd hj (Nat.not_lt_zero j), by go_grown⟩
  case round =>
    clear g0 g1
    obtain ⟨k, ca, hk, rfl, HG0, HG1, HZ, HC, hB⟩ := hrel
    by_cases hlt : k < n
    · have i0 : (0 : Int) ≤ (k : Int) := Int.natCast_nonneg k
      have i1 : (k : Int) < (n : Int) := by omega
      go_wp2_with (refine wpList_load_row rfl 28 _ rfl w.heap.size rfl 28 _ (0, 0) _ HG0.out Try.underlying28 rfl HSZ.out ?_)
      refine (get43 HL.out HS.out x k hx hlt _).mono ?_
      rintro e w1 ⟨rfl, hb1⟩
      have hB1 : Below w.heap.size w w1 := Below.step hB hb1
      have HG01 : Hid (w1.heap[w.heap.size]? = some (.cells cs 28 (0, 0))) := (hb1.block _ (blk_lt HG0.out)).trans HG0.out
      have hg11 : w1.heap[w.heap.size + 1]? = some (.cells ca 3 (0, 0)) := (hb1.block _ (blk_lt HG1.out)).trans HG1.out
      have hca : ca[k]? = some (ca[k]'(by rw [HZ.out]; exact hlt)) := Array.getElem?_eq_getElem _
      have cell : w1.cell? ⟨w.heap.size + 1, k, none⟩ = some (ca[k]'(by rw [HZ.out]; exact hlt)) := by rw [cell_of_row _ _ _ _ _ _ hg11]; exact hca
      have frz : w1.frozen? ⟨w.heap.size + 1, k, none⟩ = false := blk_frozen hg11 k
      have HG11 := Lib.hid hg11
      generalize (ca[k]'(by rw [HZ.out]; exact hlt)) = v0 at cell
      clear hg11 hca hb1
      go_wp2_with fail
      go_roundw
      case rel =>
        refine ⟨k + 1, ca.setIfInBounds k (.int .i64 (fld s x k)), by omega, by go_num, blk_far HG01.out (by show w.heap.size ≠ w.heap.size + 1; omega) _, blk_set HG11.out k _, by show (ca.setIfInBounds k _).size = n; rw [Array.size_setIfInBounds]; exact HZ.out, fun j hj => ?_, hB1.setCell (by show w.heap.size ≤ w.heap.size + 1; omega) _⟩
        by_cases e : j = k
        · subst e
          rw [Array.getElem?_setIfInBounds_self_of_lt (by rw [HZ.out]; omega)]
        · rw [Array.getElem?_setIfInBounds_ne (by omega)]
          exact HC.out j (by omega)
      case measure => simp [intOf]; omega
    · obtain rfl : k = n := by omega
      have hbd := fld_bd HS.out x
      go_wp2
      go_ret
      exact ⟨w.heap.size + 1, rfl, fun j hj => ⟨w.heap.size + 1, 0, rfl, blk_lt HG1.out, by rw [cell_of_row _ _ _ _ _ _ HG1.out, Nat.zero_add]; exact HC.out j hj, by have := hbd j hj; omega, by have := hbd j hj; omega⟩, hB⟩
end Go.Proofs.Ytcbhbdadahlbfaa

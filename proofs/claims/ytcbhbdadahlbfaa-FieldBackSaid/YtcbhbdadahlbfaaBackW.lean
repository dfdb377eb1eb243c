/-
  The walk of FieldBack.
-/
import Derived.Test.YtcbhbdadahlbfaaRows
import Derived.WalkKit
import Derived.ProofKit
import Derived.OpenShut
import Derived.ShutString
import Derived.Below
import Derived.Outline
import Derived.WalkLawsBesides
import Derived.WalkSpells
import Derived.Handy
import Derived.Deep.QuietTactic
import Derived.BigQuiet
import Derived.RegionTactic
import Derived.ChangeAlike
import Derived.Lib.Hide
import Derived.Laws.Rows
import Derived.Laws.Tables
import Derived.Laws.CopyOwn
import Derived.Deep.WholeRow
import Derived.Deep.LoopGhost
import Derived.Laws.BitsAllLaws
import Derived.Laws.BitsLemmas
import Derived.IntWalk
import Derived.Test.YtcbhbdadahlbfaaKit
import Derived.Laws.MakeOwn
import Derived.Laws.Entries
import Derived.Deep.RegionLaw
import Derived.Deep.Cut
import Derived.Deep.CutRange
import Derived.Deep.DeepCutAuto
import Derived.Test.YtcbhbdadahlbfaaGet
namespace Go.Proofs.Ytcbhbdadahlbfaa.fieldBack
open Go.ChangeShapes Go.WideShapes Go.ChangeAt Go.RowKit
open Go.Proofs.Ytcbhbdadahlbfaa.fieldApart
theorem mod_is (x a : Nat) : (((x % 2 ^ a : Nat) : Int) == (x : Int)) = ((x : Int) / 2 ^ a == 0) := by
  have hp : 0 < 2 ^ a := Nat.two_pow_pos a
  have e : (x : Int) / 2 ^ a = ((x / 2 ^ a : Nat) : Int) := by simp
  rw [Bool.eq_iff_iff, beq_iff_eq, beq_iff_eq, e]
  constructor
  · intro h
    have h1 : x % 2 ^ a = x := by omega
    have h2 : x < 2 ^ a := by rw [← h1]; exact Nat.mod_lt _ hp
    rw [Nat.div_eq_of_lt h2]
    rfl
  · intro h
    have h1 : x / 2 ^ a = 0 := by omega
    have h2 : x < 2 ^ a := by
      rcases Nat.lt_or_ge x (2 ^ a) with h3 | h3
      · exact h3
      · exact absurd (Nat.div_pos h3 hp) (by omega)
    rw [Nat.mod_eq_of_lt h2]
theorem step_load_row {P : Program} {ops : Array Oper} {o : Oper} {a : Act} {w : World} {K : Act → World → Prop} {Q : Exit → Act → World → Prop} {E : Prop} (hgd : o.guard = none) (ty : TypeId) (x : Operand) (ho : o.op = .load ty x)
    (g : Nat) (hx : a.eval x = .pointer (some ⟨g, 0, none⟩)) (t : TypeId) (cs : Array Value) (fr : Nat × Nat) (d : TypeDesc) (hg : w.heap[g]? = some (.cells cs t fr))
    (hu : P.underlying ty = some d) (hd : (match d with | .struct _ | .array _ _ => true | _ => false) = true) (hi : (P.info? ty).map (·.size) = some cs.size)
    (h : K (a.put o.dst (.agg cs)) w) : if Region.wanted o (yielded ops a.tmps) = true then Oper.wp P o a w K Q else E := by
  have hw : Region.wanted o (yielded ops a.tmps) = true := by simp [Region.wanted, hgd]
  rw [if_pos hw]
  exact wp_load_row ty x ho g hx t cs fr d hg hu hd hi h
/-- What a block holds. -/
def cellsAt (w : World) (g : Nat) : Array Value := match w.heap[g]? with
  | some (.cells cs _ _) => cs
  | _ => #[]
def LayAt (w : World) (g : Nat) : Prop := ∃ cs, w.heap[g]? = some (.cells cs 28 (0, 0)) ∧ (Try.prog.info? 28).map (·.size) = some cs.size
theorem load28_at (w : World) (g : Nat) (h : LayAt w g) : (loadVar 28 ⟨g, 0, none⟩).run Try.prog w = .ok (.agg (cellsAt w g)) w := by
  obtain ⟨cs, hg, hi⟩ := h
  have e : cellsAt w g = cs := by simp [cellsAt, hg]
  rw [e]
  exact run_loadVar_row w g 28 28 cs (0, 0) _ hg Try.underlying28 rfl hi
theorem lay_at {w : World} {g : Nat} {cs : Array Value} (hg : w.heap[g]? = some (.cells cs 28 (0, 0))) (hi : (Try.prog.info? 28).map (·.size) = some cs.size) : LayAt w g ∧ cellsAt w g = cs := ⟨⟨cs, hg, hi⟩, by simp [cellsAt, hg]⟩
def ptrB : Value → Nat
  | .pointer (some a) => a.block
  | _ => 0
theorem exec_load28 (ev : Operand → Value) (x : Operand) (d : Option Tmp) (ty : TypeId) (pos : String) (af : Array _) (gd : _) (w : World) (hp : ev x = .pointer (some ⟨ptrB (ev x), 0, none⟩)) (h : LayAt w (ptrB (ev x))) :
    (execOp ev { dst := d, op := Op.load 28 x, type := ty, pos := pos, after := af, guard := gd }).run Try.prog w = .ok (.value (.agg (cellsAt w (ptrB (ev x))))) w := by
  have e := load28_at w _ h
  generalize ptrB (ev x) = g at *
  unfold execOp
  simp only [Instr.loadAt, hp, Instr.sureAddr, Sem.run_bind, Sem.run_pure, Result.andThen_ok, e]
attribute [local go_sem ↓] exec_load28
attribute [local go_sem] ptrB
theorem row_drew {A : Option Addr} {m : Nat} {z : Nat → Int} {w : World} (h : RowI w A m z) : RowI w.drew A m z := h

set_option maxRecDepth 100000 in
set_option maxHeartbeats 8000000 in
theorem main (A : Option Addr) (n cap x : Nat) (X : Int) (hX : X = (x : Int)) (ws : Nat → Int) (w : World) (hn : n ≤ 70) (hR : RowI w A n ws) (hx : x < 18446744073709551616) :
    Calls Try.prog 3 #[.slice A n cap, .int .u64 X] w fun e w' => e = .returned (.bool true) ∧ Below w.heap.size w w' := by
  have hzero := zero70
  have HR := Lib.hid hR
  have HX := Lib.hid hX
  clear hR hX
  go_enter Try.func3, Try.ntmps3
  go_wp2_with fail
  refine (light9 A n cap _ hn).mono ?_
  rintro e w' ⟨rfl, rfl⟩
  go_wp2_with fail
  refine (new_any A n cap ws _ HR.out).mono ?_
  rintro e w1 ⟨cs, n', s', y, rfl, hN, hb1⟩
  have HN := Lib.hid hN
  have HSZ := Lib.hid (lay_info hN.1)
  have HZS := Lib.hid (show Z0.size = cs.size from by rw [hN.1.size]; rfl)
  have HON := Lib.hid hN.1.one
  have HG1 := Lib.hid (heap_alloc_new w1 (Obj.cells Z0 28))
  have HB1 := Lib.hid hb1
  have hs1 := hb1.size
  clear hN hb1
  have HG2 := Lib.hid (heap_alloc_new w1 (Obj.cells cs 28))
  have HB2 := Lib.hid (show Below w.heap.size w (w1.alloc (Obj.cells cs 28)) from HB1.out.alloc hs1 _)
  rcases HN.out.2.2 with ⟨ey, en⟩ | ⟨T, v, ey⟩
  · subst ey
    subst en
    have hL := HN.out.1
    have hS := HN.out.2.1
    obtain ⟨W0, hW0⟩ : ∃ W0 : Int, W0 = ((word s' (fld s' x) n' : Nat) : Int) := ⟨_, rfl⟩
    have HP := Lib.hid (fun (A : Option Addr) (cap : Nat) (W : World) (hR : RowI W A n' (fld s' x)) => show Calls Try.prog 12 #[.agg cs, .slice A n' cap] W fun e w' => e = .returned (.tuple #[.int .u64 W0, .nilIface]) ∧ Below W.heap.size W w' from by rw [hW0]; exact pack_ok hL hS A cap W hR (fun k _ => fld_fit (n := n') (s := s') x k))
    have HAL := Lib.hid (fun (W : World) => show Calls Try.prog 13 #[.agg cs, .int .u64 X] W fun e w' => ∃ B, e = .returned (.slice (some ⟨B, 0, none⟩) n' n') ∧ RowI w' (some ⟨B, 0, none⟩) n' (fld s' x) ∧ Below W.heap.size W w' from by rw [HX.out]; exact all13 hL hS x hx W)
    obtain ⟨c, hc⟩ : ∃ c : Bool, c = ((x : Int) / 2 ^ (s' n').toNat == 0) := ⟨_, rfl⟩
    have HS1 := Lib.hid (fun (W : World) => show Calls Try.prog 14 #[.agg cs, .int .u64 X] W fun e w' => e = .returned (.bool c) ∧ Below W.heap.size W w' from by rw [HX.out, hc]; exact sound_is hL (x : Int) W hS.2.1 (steps_last hS).1 (steps_last hS).2 (Int.natCast_nonneg x) (by omega))
    have HS2 := Lib.hid (fun (W : World) => sound_word hL hS (fun k _ => fld_fit (n := n') (s := s') x k) W0 hW0 W)
    have HC := Lib.hid (show (W0 == X) = c from by rw [hW0, HX.out, hc, word_fld hS x n' (Nat.le_refl _)]; exact mod_is x _)
    clear hW0 hc
    clear hL hS
    go_wp2_with (refine wpList_store_row rfl 28 _ _ rfl w1.heap.size cs rfl rfl 28 Z0 HG1.out HSZ.out HZS.out HON.out ?_; rw [World.setRow_alloc_new])
    have hS0 : (w1.alloc (Obj.cells cs 28)).drew.heap[w1.heap.size]? = some (.cells cs 28 (0, 0)) := HG2.out
    have hB0 : Below w.heap.size w (w1.alloc (Obj.cells cs 28)).drew := Below.drew HB2.out
    go_cut [7, 8] (fun s7 s8 wx => s7 = .int .u64 W0 ∧ s8 = .nilIface ∧ wx.heap[w1.heap.size]? = some (.cells cs 28 (0, 0)) ∧ Below w.heap.size w wx)
    case first =>
      obtain ⟨la0, lb0⟩ := lay_at hS0 HSZ.out
      have HS0 := Lib.hid hS0
      clear hS0
      go_region_law (first
        | (go_simp; go_at_call 13; (with_reducible refine (HAL.out _).mono ?_); rintro e wy ⟨B, rfl, hRy, hby⟩; have HSy := Lib.hid ((hby.block _ (blk_lt HS0.out)).trans HS0.out); have hBy := Below.step hB0 hby; have HRY := Lib.hid hRy; obtain ⟨lay, lby⟩ := lay_at HSy.out HSZ.out; clear hRy hby)
        | (go_simp; go_at_call 12; (with_reducible refine (HP.out _ _ _ HRY.out).mono ?_); rintro e wz ⟨rfl, hbz⟩; have hSz := (hbz.block _ (blk_lt HSy.out)).trans HSy.out; have hBz := Below.step hBy hbz; have HWZ := Lib.hid hSz; clear hSz))
      all_goals (go_wp2_with fail; go_meet; exact ⟨rfl, rfl, HWZ.out, hBz⟩)
    case rest =>
      obtain ⟨rfl, rfl, hS6, hB6⟩ := hcut
      have hcc := HC.out
      cases c with
      | true =>
        go_wp2_with fail
        refine (awake10 _).mono ?_
        rintro e w7 ⟨rfl, hb7⟩
        have hS7 := (hb7.block _ (blk_lt hS6)).trans hS6
        have hB7 := Below.step hB6 hb7
        obtain ⟨la7, lb7⟩ := lay_at hS7 HSZ.out
        go_wp2_with (refine wpList_load_on rfl 28 _ rfl w1.heap.size rfl 28 _ (0, 0) _ hS7 Try.underlying28 rfl HSZ.out ?_)
        refine (HS1.out _).mono ?_
        rintro e w8 ⟨rfl, hb8⟩
        have hS8 := (hb8.block _ (blk_lt hS7)).trans hS7
        have hB8 := Below.step hB7 hb8
        obtain ⟨la8, lb8⟩ := lay_at hS8 HSZ.out
        go_wp2_with (refine wpList_load_on rfl 28 _ rfl w1.heap.size rfl 28 _ (0, 0) _ hS8 Try.underlying28 rfl HSZ.out ?_)
        refine (HS2.out _).mono ?_
        rintro e w9 ⟨rfl, hb9⟩
        go_wp2
        go_ret
        exact ⟨rfl, Below.step hB8 hb9⟩
      | false =>
        go_wp2_with fail
        refine (awake10 _).mono ?_
        rintro e w7 ⟨rfl, hb7⟩
        have hS7 := (hb7.block _ (blk_lt hS6)).trans hS6
        have hB7 := Below.step hB6 hb7
        obtain ⟨la7, lb7⟩ := lay_at hS7 HSZ.out
        go_wp2_with (refine wpList_load_on rfl 28 _ rfl w1.heap.size rfl 28 _ (0, 0) _ hS7 Try.underlying28 rfl HSZ.out ?_)
        refine (HS1.out _).mono ?_
        rintro e w8 ⟨rfl, hb8⟩
        have hS8 := (hb8.block _ (blk_lt hS7)).trans hS7
        have hB8 := Below.step hB7 hb8
        obtain ⟨la8, lb8⟩ := lay_at hS8 HSZ.out
        go_wp2_with (refine wpList_load_on rfl 28 _ rfl w1.heap.size rfl 28 _ (0, 0) _ hS8 Try.underlying28 rfl HSZ.out ?_)
        refine (HS2.out _).mono ?_
        rintro e w9 ⟨rfl, hb9⟩
        go_wp2
        go_ret
        exact ⟨rfl, Below.step hB8 hb9⟩
  · subst ey
    clear HN
    go_wp2_with (refine wpList_store_row rfl 28 _ _ rfl w1.heap.size cs rfl rfl 28 Z0 HG1.out HSZ.out HZS.out HON.out ?_; rw [World.setRow_alloc_new])
    refine (awake10 _).mono ?_
    rintro e w5 ⟨rfl, hb5⟩
    go_wp2
    go_ret
    exact ⟨rfl, Below.step HB2.out hb5⟩

set_option maxHeartbeats 1000000 in
theorem long (A : Option Addr) (n cap : Nat) (X : Int) (w : World) (hn : 70 < n) (h0 : n ≤ 9223372036854775807) :
    Calls Try.prog 3 #[.slice A n cap, .int .u64 X] w fun e w' => e = .returned (.bool true) ∧ Below w.heap.size w w' := by
  go_enter Try.func3, Try.ntmps3
  go_wp2_with fail
  refine (light9_no A n cap _ hn h0).mono ?_
  rintro e w' ⟨rfl, rfl⟩
  go_wp2_with fail
  refine (awake10 _).mono ?_
  rintro e w1 ⟨rfl, hb1⟩
  go_wp2
  go_ret
  exact ⟨rfl, hb1⟩
theorem walk (a0 : Option Addr) (len0 cap0 : Nat) (z0 : List Int) (a1 : Int) (w : World) (w0 : IsRow .i64 w a0 len0 cap0 z0) (w1 : (Lit.int .u64 a1).wf = true) :
    Calls Try.prog 3 #[.slice a0 len0 cap0, .int .u64 a1] w fun e w' => e = .returned (.bool true) ∧ Below w.heap.size w w' := by
  have b := bounds_u64 w1
  by_cases h0 : 70 < len0
  · exact long _ _ _ _ w h0 (len_le w0)
  · exact main a0 len0 cap0 a1.toNat a1 (by omega) _ w (by omega) (row_of w0) (by omega)
end Go.Proofs.Ytcbhbdadahlbfaa.fieldBack

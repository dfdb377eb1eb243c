/-
  What a script sums up to; scripts laid one behind the other.
-/
import Derived.Test.YtfdjbhlpkfbgnaaRows
import Derived.Test.YtfdjbhlpkfbgnaaKit
import Derived.Test.YtfdjbhlpkfbgnaaApp
import Derived.Test.YtfdjbhlpkfbgnaaQuiet
import Derived.Test.YtfdjbhlpkfbgnaaShM
import Derived.Test.YtfdjbhlpkfbgnaaShO
import Derived.Test.YtfdjbhlpkfbgnaaShB
import Derived.Test.YtfdjbhlpkfbgnaaShC
import Derived.WalkKit
import Derived.ProofKit
import Derived.OpenShut
import Derived.ShutString
import Derived.Below
import Derived.Outline
import Derived.WalkLawsBesides
import Derived.WalkSpells
import Derived.Handy
import Derived.Deep.QuietTactic
import Derived.BigQuiet
import Derived.RegionTactic
import Derived.ChangeAlike
import Derived.Lib.Hide
import Derived.Laws.Rows
import Derived.Laws.Tables
import Derived.Laws.CopyOwn
import Derived.Laws.MakeOwn
import Derived.Laws.Entries
import Derived.Laws.OwnMore
import Derived.Deep.WholeRow
import Derived.Deep.LoopGhost
import Derived.Deep.AppendLies
import Derived.Deep.Draws
import Derived.Maps.AppendAt
import Derived.OwnWalk
import Derived.Deep.RegionHeld3
import Derived.Deep.Cut
import Derived.Deep.CutRange
import Derived.Deep.DeepCutAuto
import Derived.Deep.CutBlock
import Derived.Lib.SliceRun
import Derived.IntWalk
import Derived.Lib.AppendZerosOnto
namespace Go.Proofs.Ytfdjbhlpkfbgnaa
open Go.ChangeShapes Go.WideShapes Go.ChangeAt Go.RowKit
theorem sum_take (kind : Int) (l : List Evn) (k : Nat) (x : Evn) (h : l[k]? = some x) : sumE kind (l.take (k + 1)) = sumE kind (l.take k) + wt kind x := by
  rw [List.take_add_one, h, sumE_append]
  show _ + (wt kind x + 0) = _
  omega
set_option maxRecDepth 100000 in
set_option maxHeartbeats 8000000 in
theorem sum_is (base n c : Nat) (A : Option Addr) (l : List Evn) (kind : Int) (w : World) (h : w.ownsRow base 38 12 (.slice A n c) n (nv l)) (hn : n = l.length) (hl : n ≤ 100) : Calls Try.prog 9 #[.slice A n c, .int .i64 kind] w fun e w' => e = .returned (.int .i64 (sumE kind l)) ∧ Below w.heap.size w w' := by
  have HH := Lib.hid h
  have HL := Lib.hid hn
  have n0 : (0 : Int) ≤ (n : Int) := by omega
  have n1 : (n : Int) ≤ 100 := by omega
  clear h hn hl
  go_enter Try.func9, Try.ntmps9
  go_wp2_with fail
  go_loopw [5, 7, 10] (fun s _ i wr => ∃ k : Nat, k ≤ n ∧ i = .int .i64 (k : Int) ∧ s = .int .i64 (sumE kind (l.take k)) ∧ Hid (Below w.heap.size w wr)) (fun _ _ i _ => n + 1 - (intOf i).toNat)
  case atStart => exact ⟨0, Nat.zero_le _, rfl, rfl, Lib.hid (Below.refl _ _)⟩
  case round =>
    obtain ⟨k, hk, rfl, rfl, HB⟩ := hrel
    have k0 : (0 : Int) ≤ (k : Int) := by omega
    by_cases hkn : k < n
    · have k1 : (k : Int) < (n : Int) := by omega
      obtain ⟨x, hx⟩ : ∃ x, l[k]? = some x := ⟨_, List.getElem?_eq_getElem (by rw [← HL.out]; exact hkn)⟩
      have hrow := rkept HH.out HB.out
      obtain ⟨g3, cp3, hv3, _, _⟩ := World.ownsRow.form hrow (by omega)
      obtain ⟨rfl, rfl⟩ : A = some ⟨g3, 0, none⟩ ∧ cp3 = c := by
        injection hv3 with h1 h2 h3
        exact ⟨h1, h3.symm⟩
      have ha : ∀ (j : Nat) (u : Value), j < 12 → (nc x)[j]? = some u → wr.cell? ⟨g3, k * 12 + j, none⟩ = some u := fun j u hj hu => erow_cell hrow hx HL.out hj hu
      have a0 : wr.cell? ⟨g3, k * 12, none⟩ = some (.int .i64 x.k) := ha 0 _ (by omega) rfl
      have a1 : wr.cell? ⟨g3, k * 12 + 1, none⟩ = some (.int .i64 x.w) := ha 1 _ (by omega) rfl
      have a2 : wr.cell? ⟨g3, k * 12 + 2, none⟩ = some (.int .i64 x.n) := ha 2 _ (by omega) rfl
      have a3 : wr.cell? ⟨g3, k * 12 + 3, none⟩ = some (.int .i64 x.ak) := ha 3 _ (by omega) rfl
      have a4 : wr.cell? ⟨g3, k * 12 + 4, none⟩ = some (.int .i64 x.ai) := ha 4 _ (by omega) rfl
      have a5 : wr.cell? ⟨g3, k * 12 + 5, none⟩ = some (.int .i64 x.ac) := ha 5 _ (by omega) rfl
      have a6 : wr.cell? ⟨g3, k * 12 + 6, none⟩ = some (.int .i64 x.an) := ha 6 _ (by omega) rfl
      have a7 : wr.cell? ⟨g3, k * 12 + 7, none⟩ = some (.int .i64 x.sd) := ha 7 _ (by omega) rfl
      have a8 : wr.cell? ⟨g3, k * 12 + 8, none⟩ = some (.int .i64 x.ap) := ha 8 _ (by omega) rfl
      have a9 : wr.cell? ⟨g3, k * 12 + 9, none⟩ = some (.int .i64 x.al) := ha 9 _ (by omega) rfl
      have a10 : wr.cell? ⟨g3, k * 12 + 10, none⟩ = some (.int .i64 x.au) := ha 10 _ (by omega) rfl
      have a11 : wr.cell? ⟨g3, k * 12 + 11, none⟩ = some (.int .i64 x.aq) := ha 11 _ (by omega) rfl
      have HN := Lib.hid (sum_take kind l k x hx)
      have hbd := sumE_bd kind (l.take k)
      have hlt : (l.take k).length ≤ 100 := by rw [List.length_take]; omega
      obtain ⟨S, hS⟩ : ∃ S, S = sumE kind (l.take k) := ⟨_, rfl⟩
      rw [← hS] at hbd HN ⊢
      have hS0 : 0 ≤ S := hbd.1
      have hS1 : S ≤ 99900 := by have := hbd.2; omega
      have W0 : IntKind.i64.wrap (S + 1) = S + 1 := IntWalk.i64_in _ (by omega)
      clear ha hrow hv3 hx hbd hlt hS
      by_cases hk2 : x.k = kind
      · have d0 : (x.k != kind) = false := by simp [hk2]
        by_cases h1 : 0 < x.n
        · have d1 : decide (0 < x.n) = true := decide_eq_true h1
          by_cases h2 : x.n < 1000
          · have d2 : decide (x.n < 1000) = true := decide_eq_true h2
            have W1 : IntKind.i64.wrap (S + x.n) = S + x.n := IntWalk.i64_in _ (by omega)
            have HW := Lib.hid (show wt kind x = x.n from by unfold wt; rw [if_pos hk2, if_pos ⟨h1, h2⟩])
            rw [HW.out] at HN
            clear hk2 h1 h2 hS0 hS1
            go_wp2_with fail
            go_roundw
            case rel => exact ⟨k + 1, by omega, by go_num, by rw [HN.out], Lib.hid (HB.out.alloc HB.out.size _)⟩
            case measure => simp [intOf]; omega
          · have d2 : decide (x.n < 1000) = false := decide_eq_false h2
            have HW := Lib.hid (show wt kind x = 1 from by unfold wt; rw [if_pos hk2, if_neg (fun h => h2 h.2)])
            rw [HW.out] at HN
            clear hk2 h1 h2 hS0 hS1
            go_wp2_with fail
            go_roundw
            case rel => exact ⟨k + 1, by omega, by go_num, by rw [HN.out], Lib.hid (HB.out.alloc HB.out.size _)⟩
            case measure => simp [intOf]; omega
        · have d1 : decide (0 < x.n) = false := decide_eq_false h1
          have HW := Lib.hid (show wt kind x = 1 from by unfold wt; rw [if_pos hk2, if_neg (fun h => h1 h.1)])
          rw [HW.out] at HN
          clear hk2 h1 hS0 hS1
          go_wp2_with fail
          go_roundw
          case rel => exact ⟨k + 1, by omega, by go_num, by rw [HN.out], Lib.hid (HB.out.alloc HB.out.size _)⟩
          case measure => simp [intOf]; omega
      · have d0 : (x.k != kind) = true := by simpa using hk2
        have HW := Lib.hid (show wt kind x = 0 from by unfold wt; rw [if_neg hk2])
        rw [HW.out, Int.add_zero] at HN
        clear hk2 hS0 hS1
        go_wp2_with fail
        go_roundw
        case rel => exact ⟨k + 1, by omega, by go_num, by rw [HN.out], Lib.hid (HB.out.alloc HB.out.size _)⟩
        case measure => simp [intOf]; omega
    · obtain rfl : k = n := by omega
      have hd : decide ((k : Int) < (k : Int)) = false := decide_eq_false (by omega)
      have HT := Lib.hid (show l.take k = l from by rw [HL.out]; exact List.take_length)
      rw [HT.out]
      go_wp2_with fail
      go_ret
      exact ⟨rfl, HB.out⟩
theorem wpList_append_run {P : Program} {ops : Array Oper} {rest : List Oper} {o : Oper} {a : Act} {Q : Exit → Act → World → Prop} (w w' : World) (hgd : o.guard = none) (s x : Operand) (t tn : TypeId)
    (ho : o.op = .call { callee := .builtin .append, args := #[s, x], argTypes := #[t, tn] }) (v u r : Value) (hs : a.eval s = v) (hx : a.eval x = u)
    (hrun : (Builtin.append_ #[t, tn] o.type #[v, u]).run P w = .ok r w') (h : wpList P ops Q rest (a.put o.dst r) w') : wpList P ops Q (o :: rest) a w := by
  refine wpList_plain hgd fun K hK => ?_
  unfold Oper.wp execOp
  simp only [ho, resolve, invoke, builtin, Sem.run_bind, Sem.run_pure, Result.andThen_ok, List.map_toArray, List.map_cons, List.map_nil, hs, hx, hrun]
  exact hK _ _ h
set_option maxRecDepth 100000 in
set_option maxHeartbeats 4000000 in
theorem grow_is (n : Nat) (hn : n ≤ 1000) (w : World) : Calls Try.prog 30 #[.slice none 0 0, .int .i64 (n : Int)] w fun e w' => ∃ A c, e = .returned (.slice A 0 c) ∧ w'.ownsRow w.heap.size 38 12 (.slice A 0 c) 0 [] ∧ Below w.heap.size w w' := by
  obtain ⟨i0, hi, hz0, hz1, hz2⟩ := info_parts infoE
  have n0 : ¬ ((n : Int) < 0) := by omega
  by_cases h0 : n = 0
  · subst h0
    go_enter Try.func30, Try.ntmps30
    go_wp2_with fail
    go_ret
    exact ⟨_, _, rfl, World.ownsRow_nil _ _ _ _, by go_grown⟩
  · have h := Lib.run_append_grow_zeros w 24 3 24 38 i0 (Value.agg #[.int .i64 0, .int .i64 0, .int .i64 0, .int .i64 0, .int .i64 0, .int .i64 0, .int .i64 0, .int .i64 0, .int .i64 0, .int .i64 0, .int .i64 0, .int .i64 0]) .i64 .i64 Try.underlying24 Try.underlying3 hi hz0 none 0 0 [] (Go.run_firstCells_none w.drew i0.size 0 0 0) n (by omega) (by rw [hz1]; omega) (by omega) (by omega) (by rw [hz2]; omega) (by rw [hz2]; exact Go.growslice_fits (by omega) (by omega))
    rw [Nat.zero_add] at h
    have hG1 : n ≤ grownCap w n 0 38 := grownCap_ge w _ _ _
    have hG2 := grownCap_le_maxLen w n 0 38 (by unfold maxLen; omega)
    have h1 : (0 : Int) < (n : Int) := by omega
    obtain ⟨G, hG⟩ : ∃ G, G = grownCap w n 0 38 := ⟨_, rfl⟩
    rw [← hG] at h hG1 hG2
    have hG3 : (G : Int) ≤ 9223372036854775807 := by unfold maxLen at hG2; omega
    have hG4 : (0 : Int) ≤ (G : Int) := by omega
    obtain ⟨CS, hCS⟩ : ∃ CS : Array Value, CS = (([] : List Value).toArray ++ Builtin.zeroCells ((Value.agg #[.int .i64 0, .int .i64 0, .int .i64 0, .int .i64 0, .int .i64 0, .int .i64 0, .int .i64 0, .int .i64 0, .int .i64 0, .int .i64 0, .int .i64 0, .int .i64 0]) : Value).cells n ++ Builtin.zeroCells ((Value.agg #[.int .i64 0, .int .i64 0, .int .i64 0, .int .i64 0, .int .i64 0, .int .i64 0, .int .i64 0, .int .i64 0, .int .i64 0, .int .i64 0, .int .i64 0, .int .i64 0]) : Value).cells (G - n)) := ⟨_, rfl⟩
    rw [← hCS] at h
    have HSZ := Lib.hid (show CS.size = G * 12 from by
      rw [hCS]
      have h12 : ((Value.agg #[.int .i64 0, .int .i64 0, .int .i64 0, .int .i64 0, .int .i64 0, .int .i64 0, .int .i64 0, .int .i64 0, .int .i64 0, .int .i64 0, .int .i64 0, .int .i64 0]) : Value).cells.size = 12 := rfl
      simp [Builtin.zeroCells, h12]
      omega)
    have HG2 := Lib.hid hG2
    clear hi hz0 hz1 hz2 hG hCS hG2 h0
    have HRUN := Lib.hid h
    clear h
    go_enter Try.func30, Try.ntmps30
    go_wp2_with (at_builtin; refine wpList_append_run _ _ rfl (.tmp 20) (.tmp 21) 24 3 rfl _ _ _ rfl rfl HRUN.out ?_)
    go_ret
    refine ⟨_, _, rfl, ⟨rfl, .inr ⟨_, _, CS, rfl, Nat.le_refl _, heap_alloc_new w.drew _, Nat.zero_le _, HG2.out, HSZ.out, by simp⟩⟩, by go_grown⟩
end Go.Proofs.Ytfdjbhlpkfbgnaa

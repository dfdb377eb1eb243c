/-
  What is asked of a script.
-/
import Derived.Test.YtfdjbhlpkfbgnaaRows
import Derived.Test.YtfdjbhlpkfbgnaaKit
import Derived.Test.YtfdjbhlpkfbgnaaApp
import Derived.Test.YtfdjbhlpkfbgnaaQuiet
import Derived.Test.YtfdjbhlpkfbgnaaShM
import Derived.Test.YtfdjbhlpkfbgnaaShO
import Derived.Test.YtfdjbhlpkfbgnaaShB
import Derived.Test.YtfdjbhlpkfbgnaaShC
import Derived.Test.YtfdjbhlpkfbgnaaShD
import Derived.WalkKit
import Derived.ProofKit
import Derived.OpenShut
import Derived.ShutString
import Derived.Below
import Derived.Outline
import Derived.WalkLawsBesides
import Derived.WalkSpells
import Derived.Handy
import Derived.Deep.QuietTactic
import Derived.BigQuiet
import Derived.RegionTactic
import Derived.ChangeAlike
import Derived.Lib.Hide
import Derived.Laws.Rows
import Derived.Laws.Tables
import Derived.Laws.CopyOwn
import Derived.Laws.MakeOwn
import Derived.Laws.Entries
import Derived.Laws.OwnMore
import Derived.Deep.WholeRow
import Derived.Deep.LoopGhost
import Derived.Deep.AppendLies
import Derived.Deep.Draws
import Derived.Maps.AppendAt
import Derived.OwnWalk
import Derived.Deep.RegionHeld3
import Derived.Deep.Cut
import Derived.Deep.CutRange
import Derived.Deep.DeepCutAuto
import Derived.Deep.CutBlock
import Derived.Lib.SliceRun
import Derived.IntWalk
namespace Go.Proofs.Ytfdjbhlpkfbgnaa
open Go.ChangeShapes Go.WideShapes Go.ChangeAt Go.RowKit
theorem run_equalIn_func_nil {P : Program} (w : World) (d : Nat) (t : TypeId) (ps rs : Array TypeId) (vd : Bool) (fn : Fn) (fi ca : Array Value) (h : P.underlying t = some (.func ps rs vd)) : (Op.equalIn (d + 1) t (.func fn fi ca) .nilFunc).run P w = .ok false w := by simp [Op.equalIn, run_underlying h]
theorem run_neq_func_nil {P : Program} (w : World) (t : TypeId) (ps rs : Array TypeId) (vd : Bool) (fn : Fn) (fi ca : Array Value) (h : P.underlying t = some (.func ps rs vd)) : (binOp .neq t (.func fn fi ca) .nilFunc).run P w = .ok (.bool true) w := by
  simp only [binOp]
  simp [Op.equal, Op.maxDepth, run_equalIn_func_nil w 9999 t ps rs vd fn fi ca h]
theorem und44 : ∃ ps rs vd, Try.prog.underlying 44 = some (.func ps rs vd) := ⟨#[24], #[4], false, by kernel_rfl⟩
theorem callee17 (base n c : Nat) (A : Option Addr) (l : List Evn) (w : World) (h : w.ownsRow base 38 12 (.slice A n c) n (nv l)) (hn : n = l.length) (hl : n ≤ 60) : Calls Try.prog 17 #[.slice A n c] w fun e w' => e = .returned (.bool (holdsE 2 3 l)) ∧ Below w.heap.size w w' := by
  have HC := Lib.hid (sum_is base n c A l 2 w h hn (by omega))
  clear h hn hl
  unfold holdsE
  generalize sumE 2 l = S at *
  go_enter Try.func17, Try.ntmps17
  go_wp2_with fail
  refine HC.out.mono ?_
  rintro ey wy ⟨rfl, hby⟩
  have HBY := Lib.hid hby
  clear hby
  go_wp2_with fail
  go_ret
  exact ⟨by first | rfl | simp, HBY.out⟩
theorem callee16 (bk bm : Nat) (kind m : Int) (base n c : Nat) (A : Option Addr) (l : List Evn) (w : World) (h : w.ownsRow base 38 12 (.slice A n c) n (nv l)) (hn : n = l.length) (hl : n ≤ 60) (hk : w.cell? ⟨bk, 0, none⟩ = some (.int .i64 kind)) (hm : w.cell? ⟨bm, 0, none⟩ = some (.int .i64 m)) (hbk : bk < w.heap.size) (hbm : bm < w.heap.size) : Calls Try.prog 16 #[.slice A n c, .pointer (some ⟨bk, 0, none⟩), .pointer (some ⟨bm, 0, none⟩)] w fun e w' => e = .returned (.bool (holdsE kind m l)) ∧ Below w.heap.size w w' := by
  have HC := Lib.hid (sum_is base n c A l kind w.drew h hn (by omega))
  have HKK := Lib.hid hk
  have HMM := Lib.hid hm
  clear h hn hl
  unfold holdsE
  generalize sumE kind l = S at *
  have hd : w.drew.cell? ⟨bk, 0, none⟩ = some (.int .i64 kind) ∧ w.drew.cell? ⟨bm, 0, none⟩ = some (.int .i64 m) := ⟨hk, hm⟩
  clear hk hm
  go_enter Try.func16, Try.ntmps16
  go_wp2_with fail
  refine wp_region_held_drew (S := fun w' => w'.cell? ⟨bk, 0, none⟩ = some (.int .i64 kind) ∧ w'.cell? ⟨bm, 0, none⟩ = some (.int .i64 m)) (by kernel_rfl) hd (fun hHeld => ?_)
  refine wpAnyH_take (i := 0) (oi := { dst := some 5, op := Op.move (Operand.tmp 0), type := 24, pos := "law.go:151", after := #[], guard := none }) (v := ?_) rfl (by as_aux_lemma => kernel_rfl) (by as_aux_lemma => kernel_rfl) (by as_aux_lemma => kernel_rfl) (fun _ _ _ h => h) (Or.inl ⟨by rfl, ?_⟩) (by assumption) ?_
  rotate_left
  · intro wq hSw
    go_simp
    try with_reducible rfl
  simp only [Act.put, List.setIfInBounds_toArray, List.set_cons_zero, List.set_cons_succ]
  refine wpAnyH_take (i := 1) (oi := { dst := some 6, op := Op.load 3 (Operand.tmp 1), type := 3, pos := "law.go:151", after := #[], guard := none }) (v := ?_) rfl (by as_aux_lemma => kernel_rfl) (by as_aux_lemma => kernel_rfl) (by as_aux_lemma => kernel_rfl) (fun _ _ _ h => h) (Or.inl ⟨by rfl, ?_⟩) (by assumption) ?_
  rotate_left
  · intro wq hSw
    have h1 := hSw.1
    go_simp
    try with_reducible rfl
  simp only [Act.put, List.setIfInBounds_toArray, List.set_cons_zero, List.set_cons_succ]
  refine wpAnyH_take (i := 3) (oi := { dst := some 8, op := Op.load 3 (Operand.tmp 2), type := 3, pos := "law.go:151", after := #[], guard := none }) (v := ?_) rfl (by as_aux_lemma => kernel_rfl) (by as_aux_lemma => kernel_rfl) (by as_aux_lemma => kernel_rfl) (fun _ _ _ h => h) (Or.inl ⟨by rfl, ?_⟩) (by assumption) ?_
  rotate_left
  · intro wq hSw
    have h1 := hSw.2
    go_simp
    try with_reducible rfl
  simp only [Act.put, List.setIfInBounds_toArray, List.set_cons_zero, List.set_cons_succ]
  refine wpAnyH_ready (rs := [2]) (by as_aux_lemma => kernel_rfl) (by simp) ?_
  refine AllReadyH.cons (o := { dst := some 7, op := Op.call { callee := Callee.value (Operand.func 9), args := #[Operand.tmp 5, Operand.tmp 6], argTypes := #[24, 3] }, type := 3, pos := "law.go:151", after := #[{ on := 0, ground := Ground.data }, { on := 1, ground := Ground.data }], guard := none }) rfl (fun K hK => ?_) AllReadyH.nil
  go_simp
  go_at_call 9
  refine HC.out.mono ?_
  rintro ey wy ⟨rfl, hby⟩
  have HBY := Lib.hid hby
  refine hK.out _ _ ⟨(hby.cell (p := ⟨bk, 0, none⟩) hbk).trans hd.1, (hby.cell (p := ⟨bm, 0, none⟩) hbm).trans hd.2⟩ (fun hHeld => ?_)
  clear hK K hby
  try simp only [Act.put, List.setIfInBounds_toArray, List.set_cons_zero, List.set_cons_succ]
  refine wpAnyH_take (i := 4) (oi := { dst := some 9, op := Op.binOp BinOp.geq 3 (Operand.tmp 7) (Operand.tmp 8) 3, type := 4, pos := "law.go:151", after := #[{ on := 2, ground := Ground.data }, { on := 3, ground := Ground.data }], guard := none }) (v := ?_) rfl (by as_aux_lemma => kernel_rfl) (by as_aux_lemma => kernel_rfl) (by as_aux_lemma => kernel_rfl) (fun _ _ _ h => h) (Or.inl ⟨by rfl, ?_⟩) (by assumption) ?_
  rotate_left
  · intro wq hSw
    go_simp
    try with_reducible rfl
  simp only [Act.put, List.setIfInBounds_toArray, List.set_cons_zero, List.set_cons_succ]
  refine wpAnyH_take (i := 5) (oi := { dst := some 4, op := Op.assign (Operand.tmp 9), type := 4, pos := "law.go:151", after := #[{ on := 4, ground := Ground.data }, { on := 2, ground := Ground.chain }, { on := 0, ground := Ground.phase }, { on := 1, ground := Ground.phase }, { on := 2, ground := Ground.phase }, { on := 3, ground := Ground.phase }, { on := 4, ground := Ground.phase }], guard := none }) (v := ?_) rfl (by as_aux_lemma => kernel_rfl) (by as_aux_lemma => kernel_rfl) (by as_aux_lemma => kernel_rfl) (fun _ _ _ h => h) (Or.inl ⟨by rfl, ?_⟩) (by assumption) ?_
  rotate_left
  · intro wq hSw
    go_simp
    try with_reducible rfl
  simp only [Act.put, List.setIfInBounds_toArray, List.set_cons_zero, List.set_cons_succ]
  refine wpAnyH_done (by as_aux_lemma => kernel_rfl) ?_ _
  go_wp2_with fail
  go_ret
  exact ⟨by first | rfl | simp, Below.step (Below.drew (Below.refl _ _)) HBY.out⟩
theorem ask_idle (a : Addr) (w : World) : CallsD Try.prog 27 #[.pointer (some a)] .returning w fun e u' w' => e = .returned (.tuple #[]) ∧ u' = .returning ∧ w' = w := by
  refine callsD_of_wpS Try.func27 rfl fun c₀ cs hu => ?_
  apply wpS_seq
  apply wpS_region
  simp [wpOpsS, go_sem, recoverD, hu, Try.ntmps27, Exit.thenS]
  refine wpS_cond (t := false) (by simp [Act.eval, Array.replicate]) ?_
  simp only [Bool.false_eq_true, if_false]
  refine wpS_of_wp (wp_skip ?_)
  cases c₀
  simp_all [bodyPostS, results, Try.results27]
/-- What an asker says, in every later world. -/
def AskOk (W0 : World) (HB : Nat) (P : List Evn → Bool) : Prop := ∀ (W : World) (base n c : Nat) (A : Option Addr) (l : List Evn), Below W0.heap.size W0 W → W.ownsRow base 38 12 (.slice A n c) n (nv l) → n = l.length → n ≤ 60 → Calls Try.prog 26 #[.slice A n c, .pointer (some ⟨HB, 0, none⟩)] W fun e w' => e = .returned (.bool (P l)) ∧ Below W.heap.size W w'
set_option maxRecDepth 100000 in
set_option maxHeartbeats 8000000 in
theorem ask17 (W0 : World) (HB : Nat) (hh : W0.cell? ⟨HB, 0, none⟩ = some (.func (.func 17) #[] #[])) (hHB : HB < W0.heap.size) : AskOk W0 HB (holdsE 2 3) := by
  obtain ⟨ps, rs, vd, hu⟩ := und44
  intro w base n c A l hw h hn hl
  subst hn
  obtain ⟨W1, hW1⟩ : ∃ W1, W1 = (w.alloc (.cells #[.bool false] 4)).drew := ⟨_, rfl⟩
  have hb1 : Below w.heap.size w W1 := by rw [hW1]; exact Below.drew ((Below.refl _ _).alloc (Nat.le_refl _) _)
  have hsz1 : W1.heap.size = w.heap.size + 1 := by rw [hW1]; exact World.size_alloc w _
  have hbB : Below W0.heap.size W0 W1 := Below.step hw hb1
  have hHBw : HB < w.heap.size := Nat.lt_of_lt_of_le hHB hw.size
  have hc1 : W1.cell? ⟨HB, 0, none⟩ = some (.func (.func 17) #[] #[]) := (hbB.cell (p := ⟨HB, 0, none⟩) hHB).trans hh
  have hok : W1.cell? ⟨w.heap.size, 0, none⟩ = some (.bool false) := by rw [hW1]; show (w.alloc _).cell? _ = _; simp [go_sem]
  have hfz : W1.frozen? ⟨w.heap.size, 0, none⟩ = false := by rw [hW1]; show (w.alloc _).frozen? _ = _; simp [go_sem]
  have HC := Lib.hid (clone_is base c A l W1 (rkept h hb1) (by omega))
  have HF := Lib.hid (show ∀ (w2 : World) (A1 : Option Addr) (c1 : Nat), Below W1.heap.size W1 w2 → w2.ownsRow W1.heap.size 38 12 (.slice A1 l.length c1) l.length (nv l) → Calls Try.prog 17 #[.slice A1 l.length c1] w2 (fun e w' => e = .returned (.bool (holdsE 2 3 l)) ∧ Below w2.heap.size w2 w') from fun w2 A1 c1 hb2 ho2 => callee17 W1.heap.size l.length c1 A1 l w2 ho2 rfl hl)
  generalize hPV : holdsE 2 3 l = PV at *
  have HSZ := Lib.hid hsz1
  have HB1 := Lib.hid hb1
  have HOK := Lib.hid hok
  have HFZ := Lib.hid hfz
  have hlt : HB < W1.heap.size := by omega
  have hne : HB ≠ w.heap.size := by omega
  rw [hW1] at HC hc1
  generalize hLL : l.length = N at *
  have hmf : ∀ (fn : Fn) (first cap : Array Value) (w : World), (Instr.makeFunc fn first cap).run Try.prog w = .ok (.func fn first cap) w := fun _ _ _ _ => rfl
  have HW1 := Lib.hid hW1
  clear h hl hw hh hHB hb1 hsz1 hbB hok hfz hHBw hPV hLL hW1
  go_enter_defers Try.func26, Try.ntmps26
  go_wp2_with fail
  refine wp_region_noPanic ?_
  refine wp_region_held_drew (S := fun w' => w'.cell? ⟨HB, 0, none⟩ = some (.func (.func 17) #[] #[])) (by kernel_rfl) hc1 (fun hHeld => ?_)
  refine wpAnyH_take (i := 0) (oi := { dst := some 5, op := Op.load 44 (Operand.tmp 1), type := 44, pos := "shrink.go:23", after := #[], guard := none }) (v := ?_) rfl (by as_aux_lemma => kernel_rfl) (by as_aux_lemma => kernel_rfl) (by as_aux_lemma => kernel_rfl) (fun _ _ _ h => h) (Or.inl ⟨by rfl, ?_⟩) (by assumption) ?_
  rotate_left
  · intro wq hSw
    have h1 := hSw
    go_simp
    try with_reducible rfl
  simp only [Act.put, List.setIfInBounds_toArray, List.set_cons_zero, List.set_cons_succ]
  refine wpAnyH_take (i := 1) (oi := { dst := some 6, op := Op.binOp BinOp.neq 44 (Operand.tmp 5) (Operand.const Value.nilFunc) 44, type := 4, pos := "shrink.go:23", after := #[{ on := 0, ground := Ground.data }], guard := none }) (v := .bool true) rfl (by as_aux_lemma => kernel_rfl) (by as_aux_lemma => kernel_rfl) (by as_aux_lemma => kernel_rfl) (fun _ _ _ h => h) (Or.inl ⟨by rfl, ?_⟩) (by assumption) ?_
  · intro wq hSw
    have hnf := run_neq_func_nil wq 44 ps rs vd (.func 17) #[] #[] hu
    go_simp
    try with_reducible rfl
  simp only [Act.put, List.setIfInBounds_toArray, List.set_cons_zero, List.set_cons_succ]
  refine wpAnyH_take (i := 2) (oi := { dst := some 7, op := Op.move (Operand.tmp 6), type := 4, pos := "shrink.go:23", after := #[{ on := 1, ground := Ground.data }], guard := none }) (v := ?_) rfl (by as_aux_lemma => kernel_rfl) (by as_aux_lemma => kernel_rfl) (by as_aux_lemma => kernel_rfl) (fun _ _ _ h => h) (Or.inl ⟨by rfl, ?_⟩) (by assumption) ?_
  rotate_left
  · intro wq hSw
    go_simp
    try with_reducible rfl
  simp only [Act.put, List.setIfInBounds_toArray, List.set_cons_zero, List.set_cons_succ]
  refine wpAnyH_take (i := 3) (oi := { dst := some 8, op := Op.load 44 (Operand.tmp 1), type := 44, pos := "shrink.go:23", after := #[{ on := 2, ground := Ground.guard }], guard := some (2, true) }) (v := ?_) rfl (by as_aux_lemma => kernel_rfl) (by as_aux_lemma => kernel_rfl) (by as_aux_lemma => kernel_rfl) (fun _ _ _ h => h) (Or.inl ⟨by rfl, ?_⟩) (by assumption) ?_
  rotate_left
  · intro wq hSw
    have h1 := hSw
    go_simp
    try with_reducible rfl
  simp only [Act.put, List.setIfInBounds_toArray, List.set_cons_zero, List.set_cons_succ]
  refine wpAnyH_take (i := 4) (oi := { dst := some 9, op := Op.move (Operand.tmp 0), type := 24, pos := "shrink.go:23", after := #[{ on := 2, ground := Ground.guard }], guard := some (2, true) }) (v := ?_) rfl (by as_aux_lemma => kernel_rfl) (by as_aux_lemma => kernel_rfl) (by as_aux_lemma => kernel_rfl) (fun _ _ _ h => h) (Or.inl ⟨by rfl, ?_⟩) (by assumption) ?_
  rotate_left
  · intro wq hSw
    go_simp
    try with_reducible rfl
  simp only [Act.put, List.setIfInBounds_toArray, List.set_cons_zero, List.set_cons_succ]
  refine wpAnyH_ready (rs := [5]) (by as_aux_lemma => kernel_rfl) (by simp) ?_
  refine AllReadyH.cons (o := { dst := some 10, op := Op.call { callee := Callee.value (Operand.func 20), args := #[Operand.tmp 9], argTypes := #[24] }, type := 24, pos := "shrink.go:23", after := #[{ on := 4, ground := Ground.data }, { on := 2, ground := Ground.chain }, { on := 2, ground := Ground.guard }], guard := some (2, true) }) rfl (fun K hK => ?_) AllReadyH.nil
  go_simp
  go_at_call 20
  refine HC.out.mono ?_
  rintro e2 w2 ⟨v2, rfl, ho2, hb2⟩
  rw [← HW1.out] at ho2 hb2
  obtain ⟨A1, c1, rfl⟩ := oshape ho2
  have HR := Lib.hid (HF.out w2 A1 c1 hb2 ho2)
  have HB2 := Lib.hid hb2
  refine hK.out _ _ ((hb2.cell (p := ⟨HB, 0, none⟩) hlt).trans (by rw [HW1.out]; exact hc1)) (fun hHeld => ?_)
  clear hK K ho2 hb2
  try simp only [Act.put, List.setIfInBounds_toArray, List.set_cons_zero, List.set_cons_succ]
  refine wpAnyH_ready (rs := [6]) (by as_aux_lemma => kernel_rfl) (by simp) ?_
  refine AllReadyH.cons (o := { dst := some 11, op := Op.call { callee := Callee.value (Operand.tmp 8), args := #[Operand.tmp 10], argTypes := #[24] }, type := 4, pos := "shrink.go:23", after := #[{ on := 3, ground := Ground.data }, { on := 5, ground := Ground.data }, { on := 5, ground := Ground.chain }, { on := 2, ground := Ground.guard }], guard := some (2, true) }) rfl (fun K hK => ?_) AllReadyH.nil
  go_simp
  go_at_call 17
  refine HR.out.mono ?_
  rintro e3 w3 ⟨rfl, hb3⟩
  have HB3 := Lib.hid hb3
  have hlt2 : HB < w2.heap.size := Nat.lt_of_lt_of_le hlt HB2.out.size
  have hh2 := (hb3.cell (p := ⟨HB, 0, none⟩) hlt2).trans hHeld
  have k2 : w.heap.size < W1.heap.size := by have := HSZ.out; omega
  have k3 : w.heap.size < w2.heap.size := Nat.lt_of_lt_of_le k2 HB2.out.size
  have ok3 : w3.cell? ⟨w.heap.size, 0, none⟩ = some (.bool false) := ((hb3.cell (p := ⟨w.heap.size, 0, none⟩) k3).trans (HB2.out.cell (p := ⟨w.heap.size, 0, none⟩) k2)).trans HOK.out
  have fz3 : w3.frozen? ⟨w.heap.size, 0, none⟩ = false := ((hb3.frozen (p := ⟨w.heap.size, 0, none⟩) k3).trans (HB2.out.frozen (p := ⟨w.heap.size, 0, none⟩) k2)).trans HFZ.out
  have HBB := Lib.hid (show Below w.heap.size w w3 from Below.step (Below.step HB1.out HB2.out) hb3)
  refine hK.out _ _ hh2 (fun hHeld => ?_)
  clear hK K hb3
  try simp only [Act.put, List.setIfInBounds_toArray, List.set_cons_zero, List.set_cons_succ]
  refine wpAnyH_take (i := 7) (oi := { dst := some 12, op := Op.pick (Operand.tmp 7) (Operand.tmp 11) (Operand.const (Value.bool false)), type := 4, pos := "shrink.go:23", after := #[{ on := 2, ground := Ground.data }, { on := 6, ground := Ground.data }], guard := none }) (v := ?_) rfl (by as_aux_lemma => kernel_rfl) (by as_aux_lemma => kernel_rfl) (by as_aux_lemma => kernel_rfl) (fun _ _ _ h => h) (Or.inl ⟨by rfl, ?_⟩) (by assumption) ?_
  rotate_left
  · intro wq hSw
    go_simp
    try with_reducible rfl
  simp only [Act.put, List.setIfInBounds_toArray, List.set_cons_zero, List.set_cons_succ]
  refine wpAnyH_ready (rs := [8]) (by as_aux_lemma => kernel_rfl) (by simp) ?_
  refine AllReadyH.cons (o := { dst := none, op := Op.store 4 (Operand.tmp 3) (Operand.tmp 12), type := 0, pos := "shrink.go:23", after := #[{ on := 7, ground := Ground.data }, { on := 6, ground := Ground.chain }, { on := 0, ground := Ground.phase }, { on := 1, ground := Ground.phase }, { on := 2, ground := Ground.phase }, { on := 3, ground := Ground.phase }, { on := 4, ground := Ground.phase }, { on := 5, ground := Ground.phase }, { on := 6, ground := Ground.phase }, { on := 7, ground := Ground.phase }], guard := none }) rfl (fun K hK => ?_) AllReadyH.nil
  go_simp
  refine hK.out _ _ ((World.cell?_setCell_far _ _ _ _ (fun e => hne e.symm)).trans hHeld) (fun hHeld => ?_)
  clear hK K
  try simp only [Act.put, List.setIfInBounds_toArray, List.set_cons_zero, List.set_cons_succ]
  refine wpAnyH_done (by as_aux_lemma => kernel_rfl) ?_ _
  refine NoPanic.normal ?_
  have d0 : (w3.setCell ⟨w.heap.size, 0, none⟩ (.bool PV)).cell? ⟨w.heap.size, 0, none⟩ = some (.bool PV) := World.cell?_setCell_same _ _ _ ok3
  have f0 : (w3.setCell ⟨w.heap.size, 0, none⟩ (.bool PV)).frozen? ⟨w.heap.size, 0, none⟩ = false := by
    simp only [World.frozen?_setCell]
    exact fz3
  have HBC := Lib.hid (HBB.out.setCell (p := ⟨w.heap.size, 0, none⟩) (Nat.le_refl _) (.bool PV))
  generalize w3.setCell ⟨w.heap.size, 0, none⟩ (.bool PV) = w4 at *
  go_wp2_with fail
  refine leaves_cons (f := 27) (args := #[.pointer (some ⟨w.heap.size, 0, none⟩)]) (by simp) (by simp [go_sem]) ?_
  refine (ask_idle _ _).mono ?_
  rintro ex u' w'' ⟨rfl, rfl, rfl⟩
  simp [Leaves, settle, results, Try.results26, go_sem, d0, f0]
  exact HBC.out
set_option maxRecDepth 100000 in
set_option maxHeartbeats 8000000 in
theorem ask16 (W0 : World) (HB : Nat) (bk bm : Nat) (kind m : Int) (hh : W0.cell? ⟨HB, 0, none⟩ = some (.func (.func 16) #[] #[.pointer (some ⟨bk, 0, none⟩), .pointer (some ⟨bm, 0, none⟩)])) (hHB : HB < W0.heap.size) (hk : W0.cell? ⟨bk, 0, none⟩ = some (.int .i64 kind)) (hm : W0.cell? ⟨bm, 0, none⟩ = some (.int .i64 m)) (hbk : bk < W0.heap.size) (hbm : bm < W0.heap.size) : AskOk W0 HB (holdsE kind m) := by
  obtain ⟨ps, rs, vd, hu⟩ := und44
  intro w base n c A l hw h hn hl
  subst hn
  obtain ⟨W1, hW1⟩ : ∃ W1, W1 = (w.alloc (.cells #[.bool false] 4)).drew := ⟨_, rfl⟩
  have hb1 : Below w.heap.size w W1 := by rw [hW1]; exact Below.drew ((Below.refl _ _).alloc (Nat.le_refl _) _)
  have hsz1 : W1.heap.size = w.heap.size + 1 := by rw [hW1]; exact World.size_alloc w _
  have hbB : Below W0.heap.size W0 W1 := Below.step hw hb1
  have hHBw : HB < w.heap.size := Nat.lt_of_lt_of_le hHB hw.size
  have hc1 : W1.cell? ⟨HB, 0, none⟩ = some (.func (.func 16) #[] #[.pointer (some ⟨bk, 0, none⟩), .pointer (some ⟨bm, 0, none⟩)]) := (hbB.cell (p := ⟨HB, 0, none⟩) hHB).trans hh
  have hok : W1.cell? ⟨w.heap.size, 0, none⟩ = some (.bool false) := by rw [hW1]; show (w.alloc _).cell? _ = _; simp [go_sem]
  have hfz : W1.frozen? ⟨w.heap.size, 0, none⟩ = false := by rw [hW1]; show (w.alloc _).frozen? _ = _; simp [go_sem]
  have HC := Lib.hid (clone_is base c A l W1 (rkept h hb1) (by omega))
  have HF := Lib.hid (show ∀ (w2 : World) (A1 : Option Addr) (c1 : Nat), Below W1.heap.size W1 w2 → w2.ownsRow W1.heap.size 38 12 (.slice A1 l.length c1) l.length (nv l) → Calls Try.prog 16 #[.slice A1 l.length c1, .pointer (some ⟨bk, 0, none⟩), .pointer (some ⟨bm, 0, none⟩)] w2 (fun e w' => e = .returned (.bool (holdsE kind m l)) ∧ Below w2.heap.size w2 w') from fun w2 A1 c1 hb2 ho2 => by
    have hb9 := Below.step hbB hb2
    exact callee16 bk bm kind m W1.heap.size l.length c1 A1 l w2 ho2 rfl hl ((hb9.cell (p := ⟨bk, 0, none⟩) hbk).trans hk) ((hb9.cell (p := ⟨bm, 0, none⟩) hbm).trans hm) (Nat.lt_of_lt_of_le hbk hb9.size) (Nat.lt_of_lt_of_le hbm hb9.size))
  generalize hPV : holdsE kind m l = PV at *
  have HSZ := Lib.hid hsz1
  have HB1 := Lib.hid hb1
  have HOK := Lib.hid hok
  have HFZ := Lib.hid hfz
  have hlt : HB < W1.heap.size := by omega
  have hne : HB ≠ w.heap.size := by omega
  rw [hW1] at HC hc1
  generalize hLL : l.length = N at *
  have hmf : ∀ (fn : Fn) (first cap : Array Value) (w : World), (Instr.makeFunc fn first cap).run Try.prog w = .ok (.func fn first cap) w := fun _ _ _ _ => rfl
  have HW1 := Lib.hid hW1
  clear h hl hw hh hHB hb1 hsz1 hbB hok hfz hHBw hPV hLL hW1
  go_enter_defers Try.func26, Try.ntmps26
  go_wp2_with fail
  refine wp_region_noPanic ?_
  refine wp_region_held_drew (S := fun w' => w'.cell? ⟨HB, 0, none⟩ = some (.func (.func 16) #[] #[.pointer (some ⟨bk, 0, none⟩), .pointer (some ⟨bm, 0, none⟩)])) (by kernel_rfl) hc1 (fun hHeld => ?_)
  refine wpAnyH_take (i := 0) (oi := { dst := some 5, op := Op.load 44 (Operand.tmp 1), type := 44, pos := "shrink.go:23", after := #[], guard := none }) (v := ?_) rfl (by as_aux_lemma => kernel_rfl) (by as_aux_lemma => kernel_rfl) (by as_aux_lemma => kernel_rfl) (fun _ _ _ h => h) (Or.inl ⟨by rfl, ?_⟩) (by assumption) ?_
  rotate_left
  · intro wq hSw
    have h1 := hSw
    go_simp
    try with_reducible rfl
  simp only [Act.put, List.setIfInBounds_toArray, List.set_cons_zero, List.set_cons_succ]
  refine wpAnyH_take (i := 1) (oi := { dst := some 6, op := Op.binOp BinOp.neq 44 (Operand.tmp 5) (Operand.const Value.nilFunc) 44, type := 4, pos := "shrink.go:23", after := #[{ on := 0, ground := Ground.data }], guard := none }) (v := .bool true) rfl (by as_aux_lemma => kernel_rfl) (by as_aux_lemma => kernel_rfl) (by as_aux_lemma => kernel_rfl) (fun _ _ _ h => h) (Or.inl ⟨by rfl, ?_⟩) (by assumption) ?_
  · intro wq hSw
    have hnf := run_neq_func_nil wq 44 ps rs vd (.func 16) #[] #[.pointer (some ⟨bk, 0, none⟩), .pointer (some ⟨bm, 0, none⟩)] hu
    go_simp
    try with_reducible rfl
  simp only [Act.put, List.setIfInBounds_toArray, List.set_cons_zero, List.set_cons_succ]
  refine wpAnyH_take (i := 2) (oi := { dst := some 7, op := Op.move (Operand.tmp 6), type := 4, pos := "shrink.go:23", after := #[{ on := 1, ground := Ground.data }], guard := none }) (v := ?_) rfl (by as_aux_lemma => kernel_rfl) (by as_aux_lemma => kernel_rfl) (by as_aux_lemma => kernel_rfl) (fun _ _ _ h => h) (Or.inl ⟨by rfl, ?_⟩) (by assumption) ?_
  rotate_left
  · intro wq hSw
    go_simp
    try with_reducible rfl
  simp only [Act.put, List.setIfInBounds_toArray, List.set_cons_zero, List.set_cons_succ]
  refine wpAnyH_take (i := 3) (oi := { dst := some 8, op := Op.load 44 (Operand.tmp 1), type := 44, pos := "shrink.go:23", after := #[{ on := 2, ground := Ground.guard }], guard := some (2, true) }) (v := ?_) rfl (by as_aux_lemma => kernel_rfl) (by as_aux_lemma => kernel_rfl) (by as_aux_lemma => kernel_rfl) (fun _ _ _ h => h) (Or.inl ⟨by rfl, ?_⟩) (by assumption) ?_
  rotate_left
  · intro wq hSw
    have h1 := hSw
    go_simp
    try with_reducible rfl
  simp only [Act.put, List.setIfInBounds_toArray, List.set_cons_zero, List.set_cons_succ]
  refine wpAnyH_take (i := 4) (oi := { dst := some 9, op := Op.move (Operand.tmp 0), type := 24, pos := "shrink.go:23", after := #[{ on := 2, ground := Ground.guard }], guard := some (2, true) }) (v := ?_) rfl (by as_aux_lemma => kernel_rfl) (by as_aux_lemma => kernel_rfl) (by as_aux_lemma => kernel_rfl) (fun _ _ _ h => h) (Or.inl ⟨by rfl, ?_⟩) (by assumption) ?_
  rotate_left
  · intro wq hSw
    go_simp
    try with_reducible rfl
  simp only [Act.put, List.setIfInBounds_toArray, List.set_cons_zero, List.set_cons_succ]
  refine wpAnyH_ready (rs := [5]) (by as_aux_lemma => kernel_rfl) (by simp) ?_
  refine AllReadyH.cons (o := { dst := some 10, op := Op.call { callee := Callee.value (Operand.func 20), args := #[Operand.tmp 9], argTypes := #[24] }, type := 24, pos := "shrink.go:23", after := #[{ on := 4, ground := Ground.data }, { on := 2, ground := Ground.chain }, { on := 2, ground := Ground.guard }], guard := some (2, true) }) rfl (fun K hK => ?_) AllReadyH.nil
  go_simp
  go_at_call 20
  refine HC.out.mono ?_
  rintro e2 w2 ⟨v2, rfl, ho2, hb2⟩
  rw [← HW1.out] at ho2 hb2
  obtain ⟨A1, c1, rfl⟩ := oshape ho2
  have HR := Lib.hid (HF.out w2 A1 c1 hb2 ho2)
  have HB2 := Lib.hid hb2
  refine hK.out _ _ ((hb2.cell (p := ⟨HB, 0, none⟩) hlt).trans (by rw [HW1.out]; exact hc1)) (fun hHeld => ?_)
  clear hK K ho2 hb2
  try simp only [Act.put, List.setIfInBounds_toArray, List.set_cons_zero, List.set_cons_succ]
  refine wpAnyH_ready (rs := [6]) (by as_aux_lemma => kernel_rfl) (by simp) ?_
  refine AllReadyH.cons (o := { dst := some 11, op := Op.call { callee := Callee.value (Operand.tmp 8), args := #[Operand.tmp 10], argTypes := #[24] }, type := 4, pos := "shrink.go:23", after := #[{ on := 3, ground := Ground.data }, { on := 5, ground := Ground.data }, { on := 5, ground := Ground.chain }, { on := 2, ground := Ground.guard }], guard := some (2, true) }) rfl (fun K hK => ?_) AllReadyH.nil
  go_simp
  go_at_call 16
  refine HR.out.mono ?_
  rintro e3 w3 ⟨rfl, hb3⟩
  have HB3 := Lib.hid hb3
  have hlt2 : HB < w2.heap.size := Nat.lt_of_lt_of_le hlt HB2.out.size
  have hh2 := (hb3.cell (p := ⟨HB, 0, none⟩) hlt2).trans hHeld
  have k2 : w.heap.size < W1.heap.size := by have := HSZ.out; omega
  have k3 : w.heap.size < w2.heap.size := Nat.lt_of_lt_of_le k2 HB2.out.size
  have ok3 : w3.cell? ⟨w.heap.size, 0, none⟩ = some (.bool false) := ((hb3.cell (p := ⟨w.heap.size, 0, none⟩) k3).trans (HB2.out.cell (p := ⟨w.heap.size, 0, none⟩) k2)).trans HOK.out
  have fz3 : w3.frozen? ⟨w.heap.size, 0, none⟩ = false := ((hb3.frozen (p := ⟨w.heap.size, 0, none⟩) k3).trans (HB2.out.frozen (p := ⟨w.heap.size, 0, none⟩) k2)).trans HFZ.out
  have HBB := Lib.hid (show Below w.heap.size w w3 from Below.step (Below.step HB1.out HB2.out) hb3)
  refine hK.out _ _ hh2 (fun hHeld => ?_)
  clear hK K hb3
  try simp only [Act.put, List.setIfInBounds_toArray, List.set_cons_zero, List.set_cons_succ]
  refine wpAnyH_take (i := 7) (oi := { dst := some 12, op := Op.pick (Operand.tmp 7) (Operand.tmp 11) (Operand.const (Value.bool false)), type := 4, pos := "shrink.go:23", after := #[{ on := 2, ground := Ground.data }, { on := 6, ground := Ground.data }], guard := none }) (v := ?_) rfl (by as_aux_lemma => kernel_rfl) (by as_aux_lemma => kernel_rfl) (by as_aux_lemma => kernel_rfl) (fun _ _ _ h => h) (Or.inl ⟨by rfl, ?_⟩) (by assumption) ?_
  rotate_left
  · intro wq hSw
    go_simp
    try with_reducible rfl
  simp only [Act.put, List.setIfInBounds_toArray, List.set_cons_zero, List.set_cons_succ]
  refine wpAnyH_ready (rs := [8]) (by as_aux_lemma => kernel_rfl) (by simp) ?_
  refine AllReadyH.cons (o := { dst := none, op := Op.store 4 (Operand.tmp 3) (Operand.tmp 12), type := 0, pos := "shrink.go:23", after := #[{ on := 7, ground := Ground.data }, { on := 6, ground := Ground.chain }, { on := 0, ground := Ground.phase }, { on := 1, ground := Ground.phase }, { on := 2, ground := Ground.phase }, { on := 3, ground := Ground.phase }, { on := 4, ground := Ground.phase }, { on := 5, ground := Ground.phase }, { on := 6, ground := Ground.phase }, { on := 7, ground := Ground.phase }], guard := none }) rfl (fun K hK => ?_) AllReadyH.nil
  go_simp
  refine hK.out _ _ ((World.cell?_setCell_far _ _ _ _ (fun e => hne e.symm)).trans hHeld) (fun hHeld => ?_)
  clear hK K
  try simp only [Act.put, List.setIfInBounds_toArray, List.set_cons_zero, List.set_cons_succ]
  refine wpAnyH_done (by as_aux_lemma => kernel_rfl) ?_ _
  refine NoPanic.normal ?_
  have d0 : (w3.setCell ⟨w.heap.size, 0, none⟩ (.bool PV)).cell? ⟨w.heap.size, 0, none⟩ = some (.bool PV) := World.cell?_setCell_same _ _ _ ok3
  have f0 : (w3.setCell ⟨w.heap.size, 0, none⟩ (.bool PV)).frozen? ⟨w.heap.size, 0, none⟩ = false := by
    simp only [World.frozen?_setCell]
    exact fz3
  have HBC := Lib.hid (HBB.out.setCell (p := ⟨w.heap.size, 0, none⟩) (Nat.le_refl _) (.bool PV))
  generalize w3.setCell ⟨w.heap.size, 0, none⟩ (.bool PV) = w4 at *
  go_wp2_with fail
  refine leaves_cons (f := 27) (args := #[.pointer (some ⟨w.heap.size, 0, none⟩)]) (by simp) (by simp [go_sem]) ?_
  refine (ask_idle _ _).mono ?_
  rintro ex u' w'' ⟨rfl, rfl, rfl⟩
  simp [Leaves, settle, results, Try.results26, go_sem, d0, f0]
  exact HBC.out
end Go.Proofs.Ytfdjbhlpkfbgnaa

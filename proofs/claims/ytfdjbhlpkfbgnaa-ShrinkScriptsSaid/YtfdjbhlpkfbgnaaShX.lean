/-
  The law's own way to leave one event out.
-/
import Derived.Test.YtfdjbhlpkfbgnaaRows
import Derived.Test.YtfdjbhlpkfbgnaaKit
import Derived.Test.YtfdjbhlpkfbgnaaApp
import Derived.Test.YtfdjbhlpkfbgnaaQuiet
import Derived.Test.YtfdjbhlpkfbgnaaShM
import Derived.Test.YtfdjbhlpkfbgnaaShO
import Derived.Test.YtfdjbhlpkfbgnaaShB
import Derived.Test.YtfdjbhlpkfbgnaaShC
import Derived.Test.YtfdjbhlpkfbgnaaShD
import Derived.Test.YtfdjbhlpkfbgnaaShE
import Derived.Test.YtfdjbhlpkfbgnaaShU
import Derived.Test.YtfdjbhlpkfbgnaaShV
import Derived.WalkKit
import Derived.ProofKit
import Derived.OpenShut
import Derived.ShutString
import Derived.Below
import Derived.Outline
import Derived.WalkLawsBesides
import Derived.WalkSpells
import Derived.Handy
import Derived.Deep.QuietTactic
import Derived.BigQuiet
import Derived.RegionTactic
import Derived.ChangeAlike
import Derived.Lib.Hide
import Derived.Laws.Rows
import Derived.Laws.Tables
import Derived.Laws.CopyOwn
import Derived.Laws.MakeOwn
import Derived.Laws.Entries
import Derived.Laws.OwnMore
import Derived.Deep.WholeRow
import Derived.Deep.LoopGhost
import Derived.Deep.AppendLies
import Derived.Deep.Draws
import Derived.Maps.AppendAt
import Derived.OwnWalk
import Derived.Deep.RegionHeld3
import Derived.Deep.Cut
import Derived.Deep.CutRange
import Derived.Deep.DeepCutAuto
import Derived.Deep.CutBlock
import Derived.Lib.SliceRun
import Derived.IntWalk
namespace Go.Proofs.Ytfdjbhlpkfbgnaa
open Go.ChangeShapes Go.WideShapes Go.ChangeAt Go.RowKit
set_option maxRecDepth 100000 in
set_option maxHeartbeats 4000000 in
theorem lwo_lt (base n c i j g : Nat) (l : List Evn) (w : World) (h : w.ownsRow base 38 12 (.slice (some ⟨g, 0, none⟩) n c) n (nv l)) (hn : n = l.length) (hij : j = i + 1) (hl : n ≤ 60) (hj : j < n) : Calls Try.prog 11 #[.slice (some ⟨g, 0, none⟩) n c, .int .i64 (i : Int)] w fun e w' => ∃ A' c', e = .returned (.slice A' (i + (n - j)) c') ∧ w'.ownsRow w.heap.size 38 12 (.slice A' (i + (n - j)) c') (i + (n - j)) (nv (l.take i ++ l.drop j)) ∧ Below w.heap.size w w' := by
  obtain ⟨i0, hi0, hz0, hz1, hz2⟩ := info_parts infoE
  have HI0 := Lib.hid hi0
  have HZ0 := Lib.hid hz0
  have HZ1 := Lib.hid hz1
  have HZ2 := Lib.hid hz2
  have hR := Reads.of_own h
  obtain ⟨hnc, hcm⟩ : n ≤ c ∧ c ≤ maxLen := by
    rcases h.2 with ⟨h0, _⟩ | ⟨g', cap, cur, hv, _, _, h1, h2, _⟩
    · cases h0
    · injection hv with e1 e2 e3
      try subst e3
      exact ⟨h1, h2⟩
  have hcm2 : (c : Int) ≤ 9223372036854775807 := by unfold maxLen at hcm; omega
  have hj1 : j ≤ n := by omega
  have li : (l.take i).length = i := by rw [List.length_take]; omega
  have lj : (l.drop j).length = n - j := by rw [List.length_drop]; omega
  have hR1 : Reads w w.heap.size 12 (some ⟨g, 0, none⟩) i (nv (l.take i)) := by
    rw [nv_take]
    exact hR.takeE (by omega)
  have hR2 : Reads w w.heap.size 12 (some ⟨g, j * 12, none⟩) (n - j) (nv (l.drop j)) := by
    rw [nv_drop]
    have h2 := hR.dropE (i := j) (by omega)
    rw [addp _ _ (by omega) rfl, Nat.zero_add] at h2
    exact h2
  have hb1 : Below w.heap.size w (w.drew.alloc (.cells #[] 38)) := (Below.drew (Below.refl _ _)).alloc (Nat.le_refl _) _
  have HO := Lib.hid (World.ownsRow_lit (base := w.heap.size) (e := 38) (size := 12) w.drew #[] 0 (Nat.le_refl _) (by unfold maxLen; omega) rfl)
  have HR1 := Lib.hid (hR1.below hb1)
  have HR2 := Lib.hid hR2
  have HB1 := Lib.hid hb1
  have HNV := Lib.hid (nv_append (l.take i) (l.drop j))
  have HJ := Lib.hid hij
  have W1 : IntKind.i64.wrap ((i : Int) + 1) = (j : Int) := by rw [IntWalk.i64_in _ (by omega)]; omega
  have M1 := Lib.hid (show 0 + i ≤ maxLen from by unfold maxLen; omega)
  have M2 := Lib.hid (show (0 + i) * 96 ≤ 140737488355328 from by omega)
  have M3 := Lib.hid (show w.heap.size ≤ (w.drew.alloc (.cells #[] 38)).heap.size from hb1.size)
  have M4 := Lib.hid (show i + (n - j) ≤ maxLen from by unfold maxLen; omega)
  have M5 := Lib.hid (show (i + (n - j)) * 96 ≤ 140737488355328 from by omega)
  have i0' : (0 : Int) ≤ (i : Int) := by omega
  have i1 : (i : Int) ≤ (c : Int) := by omega
  have i2 : (i : Int) ≤ (n : Int) := by omega
  have j0 : (0 : Int) ≤ (j : Int) := by omega
  have j1 : (j : Int) ≤ (n : Int) := by omega
  have j2 : (n : Int) ≤ (c : Int) := by omega
  have j3 : (j : Int) ≤ (c : Int) := by omega
  have jc : ¬ (c = j) := by omega
  have jc2 : ¬ ((c : Int) = (j : Int)) := by omega
  clear hR h hR1 hR2 hb1 hcm hn hij hl li lj hi0 hz0 hz1 hz2
  generalize hT : l.take i = LT at *
  generalize hD : l.drop j = LD at *
  clear hT hD
  go_enter Try.func11, Try.ntmps11
  go_wp2_with fail
  refine wp_region_held_drew (S := fun w' => True) (by kernel_rfl) trivial (fun hHeld => ?_)
  refine wpAnyH_take (i := 1) (oi := { dst := some 6, op := Op.move (Operand.tmp 0), type := 24, pos := "law.go:49", after := #[], guard := none }) (v := ?_) rfl (by as_aux_lemma => kernel_rfl) (by as_aux_lemma => kernel_rfl) (by as_aux_lemma => kernel_rfl) (fun _ _ _ h => h) (Or.inl ⟨by rfl, ?_⟩) (by assumption) ?_
  rotate_left
  · intro wq hSw
    go_simp
    try with_reducible rfl
  simp only [Act.put, List.setIfInBounds_toArray, List.set_cons_zero, List.set_cons_succ]
  refine wpAnyH_take (i := 2) (oi := { dst := some 7, op := Op.move (Operand.tmp 1), type := 3, pos := "law.go:49", after := #[], guard := none }) (v := ?_) rfl (by as_aux_lemma => kernel_rfl) (by as_aux_lemma => kernel_rfl) (by as_aux_lemma => kernel_rfl) (fun _ _ _ h => h) (Or.inl ⟨by rfl, ?_⟩) (by assumption) ?_
  rotate_left
  · intro wq hSw
    go_simp
    try with_reducible rfl
  simp only [Act.put, List.setIfInBounds_toArray, List.set_cons_zero, List.set_cons_succ]
  refine wpAnyH_take (i := 3) (oi := { dst := some 8, op := Op.slice 24 (Operand.tmp 6) none (some (Operand.tmp 7)) none, type := 24, pos := "law.go:49", after := #[{ on := 1, ground := Ground.data }, { on := 2, ground := Ground.data }], guard := none }) (v := .slice (some ⟨g, 0, none⟩) i c) rfl (by as_aux_lemma => kernel_rfl) (by as_aux_lemma => kernel_rfl) (by as_aux_lemma => kernel_rfl) (fun _ _ _ h => h) (Or.inl ⟨by rfl, ?_⟩) (by assumption) ?_
  · intro wq hSw
    go_simp
    try with_reducible rfl
  simp only [Act.put, List.setIfInBounds_toArray, List.set_cons_zero, List.set_cons_succ]
  refine wpAnyH_take (i := 5) (oi := { dst := some 10, op := Op.move (Operand.tmp 0), type := 24, pos := "law.go:49", after := #[], guard := none }) (v := ?_) rfl (by as_aux_lemma => kernel_rfl) (by as_aux_lemma => kernel_rfl) (by as_aux_lemma => kernel_rfl) (fun _ _ _ h => h) (Or.inl ⟨by rfl, ?_⟩) (by assumption) ?_
  rotate_left
  · intro wq hSw
    go_simp
    try with_reducible rfl
  simp only [Act.put, List.setIfInBounds_toArray, List.set_cons_zero, List.set_cons_succ]
  refine wpAnyH_take (i := 6) (oi := { dst := some 11, op := Op.move (Operand.tmp 1), type := 3, pos := "law.go:49", after := #[], guard := none }) (v := ?_) rfl (by as_aux_lemma => kernel_rfl) (by as_aux_lemma => kernel_rfl) (by as_aux_lemma => kernel_rfl) (fun _ _ _ h => h) (Or.inl ⟨by rfl, ?_⟩) (by assumption) ?_
  rotate_left
  · intro wq hSw
    go_simp
    try with_reducible rfl
  simp only [Act.put, List.setIfInBounds_toArray, List.set_cons_zero, List.set_cons_succ]
  refine wpAnyH_take (i := 7) (oi := { dst := some 12, op := Op.binOp BinOp.add 3 (Operand.tmp 11) (Operand.const (Value.int IntKind.i64 1)) 3, type := 3, pos := "law.go:49", after := #[{ on := 6, ground := Ground.data }], guard := none }) (v := .int .i64 (j : Int)) rfl (by as_aux_lemma => kernel_rfl) (by as_aux_lemma => kernel_rfl) (by as_aux_lemma => kernel_rfl) (fun _ _ _ h => h) (Or.inl ⟨by rfl, ?_⟩) (by assumption) ?_
  · intro wq hSw
    go_simp
    try with_reducible rfl
  simp only [Act.put, List.setIfInBounds_toArray, List.set_cons_zero, List.set_cons_succ]
  refine wpAnyH_take (i := 8) (oi := { dst := some 13, op := Op.slice 24 (Operand.tmp 10) (some (Operand.tmp 12)) none none, type := 24, pos := "law.go:49", after := #[{ on := 5, ground := Ground.data }, { on := 7, ground := Ground.data }], guard := none }) (v := .slice (some ⟨g, j * 12, none⟩) (n - j) (c - j)) rfl (by as_aux_lemma => kernel_rfl) (by as_aux_lemma => kernel_rfl) (by as_aux_lemma => kernel_rfl) (fun _ _ _ h => h) (Or.inl ⟨by rfl, ?_⟩) (by assumption) ?_
  · intro wq hSw
    go_simp
    try with_reducible rfl
  simp only [Act.put, List.setIfInBounds_toArray, List.set_cons_zero, List.set_cons_succ]
  refine wpAnyH_ready (rs := [0]) (by as_aux_lemma => kernel_rfl) (by simp) ?_
  refine AllReadyH.cons (o := { dst := some 5, op := Op.buildSlice 24 0 #[], type := 24, pos := "law.go:49", after := #[], guard := none }) rfl (fun K hK => ?_) AllReadyH.nil
  go_simp
  refine hK.out _ _ trivial (fun hHeld => ?_)
  clear hK K
  try simp only [Act.put, List.setIfInBounds_toArray, List.set_cons_zero, List.set_cons_succ]
  refine wpAnyH_ready (rs := [4]) (by as_aux_lemma => kernel_rfl) (by simp) ?_
  refine AllReadyH.cons (o := { dst := some 9, op := Op.call { callee := Callee.builtin Builtin.append, args := #[Operand.tmp 5, Operand.tmp 8], argTypes := #[24, 24] }, type := 24, pos := "law.go:49", after := #[{ on := 0, ground := Ground.data }, { on := 3, ground := Ground.data }], guard := none }) rfl (fun K hK => ?_) AllReadyH.nil
  refine step_append_any _ rfl (.tmp 5) (.tmp 8) 24 rfl w.heap.size 38 i0 (Value.agg #[.int .i64 0, .int .i64 0, .int .i64 0, .int .i64 0, .int .i64 0, .int .i64 0, .int .i64 0, .int .i64 0, .int .i64 0, .int .i64 0, .int .i64 0, .int .i64 0]) 12 96 Try.underlying24 HI0.out HZ0.out HZ1.out HZ2.out rfl (by decide) _ 0 _ (by simp [Act.eval, Act.put]) HO.out _ (some ⟨g, 0, none⟩) i c (nv LT) (by simp [Act.eval, Act.put]) HR1.out (nv_one _) M1.out M2.out M3.out ?_
  intro v3 w3 hown3 hgrow3 hblk3
  obtain ⟨A3, c3, rfl⟩ := oshape hown3
  rw [Nat.zero_add] at hown3
  have hb3 : Below w.heap.size w w3 := Below.grown HB1.out hgrow3 M3.out (fun g e => (HO.out.lt g e).1)
  have HO3 := Lib.hid hown3
  have HR3 := Lib.hid (HR2.out.below hb3)
  have M6 := Lib.hid hb3.size
  have HB3 := Lib.hid hb3
  refine hK.out _ _ trivial (fun hHeld => ?_)
  clear hK K hb3 hown3 hgrow3 hblk3
  try simp only [Act.put, List.setIfInBounds_toArray, List.set_cons_zero, List.set_cons_succ]
  refine wpAnyH_ready (rs := [9]) (by as_aux_lemma => kernel_rfl) (by simp) ?_
  refine AllReadyH.cons (o := { dst := some 14, op := Op.call { callee := Callee.builtin Builtin.append, args := #[Operand.tmp 9, Operand.tmp 13], argTypes := #[24, 24] }, type := 24, pos := "law.go:49", after := #[{ on := 4, ground := Ground.data }, { on := 8, ground := Ground.data }, { on := 4, ground := Ground.chain }], guard := none }) rfl (fun K hK => ?_) AllReadyH.nil
  refine step_append_any _ rfl (.tmp 9) (.tmp 13) 24 rfl w.heap.size 38 i0 (Value.agg #[.int .i64 0, .int .i64 0, .int .i64 0, .int .i64 0, .int .i64 0, .int .i64 0, .int .i64 0, .int .i64 0, .int .i64 0, .int .i64 0, .int .i64 0, .int .i64 0]) 12 96 Try.underlying24 HI0.out HZ0.out HZ1.out HZ2.out rfl (by decide) _ i _ (by simp [Act.eval, Act.put]) HO3.out _ (some ⟨g, j * 12, none⟩) (n - j) (c - j) (nv LD) (by simp [Act.eval, Act.put]) HR3.out (nv_one _) M4.out M5.out M6.out ?_
  intro v4 w4 hown4 hgrow4 hblk4
  obtain ⟨A4, c4, rfl⟩ := oshape hown4
  have hb4 : Below w.heap.size w w4 := Below.grown HB3.out hgrow4 M6.out (fun g e => (HO3.out.lt g e).1)
  have HO4 := Lib.hid hown4
  have HB4 := Lib.hid hb4
  refine hK.out _ _ trivial (fun hHeld => ?_)
  clear hK K hb4 hown4 hgrow4 hblk4
  try simp only [Act.put, List.setIfInBounds_toArray, List.set_cons_zero, List.set_cons_succ]
  refine wpAnyH_take (i := 10) (oi := { dst := some 4, op := Op.assign (Operand.tmp 14), type := 24, pos := "law.go:49", after := #[{ on := 9, ground := Ground.data }, { on := 9, ground := Ground.chain }, { on := 0, ground := Ground.phase }, { on := 1, ground := Ground.phase }, { on := 2, ground := Ground.phase }, { on := 3, ground := Ground.phase }, { on := 4, ground := Ground.phase }, { on := 5, ground := Ground.phase }, { on := 6, ground := Ground.phase }, { on := 7, ground := Ground.phase }, { on := 8, ground := Ground.phase }, { on := 9, ground := Ground.phase }], guard := none }) (v := ?_) rfl (by as_aux_lemma => kernel_rfl) (by as_aux_lemma => kernel_rfl) (by as_aux_lemma => kernel_rfl) (fun _ _ _ h => h) (Or.inl ⟨by rfl, ?_⟩) (by assumption) ?_
  rotate_left
  · intro wq hSw
    go_simp
    try with_reducible rfl
  simp only [Act.put, List.setIfInBounds_toArray, List.set_cons_zero, List.set_cons_succ]
  refine wpAnyH_done (by as_aux_lemma => kernel_rfl) ?_ _
  go_wp2_with fail
  go_ret
  rw [HNV.out]
  exact ⟨_, _, rfl, by simpa using HO4.out, HB4.out⟩
set_option maxRecDepth 100000 in
set_option maxHeartbeats 4000000 in
theorem lwo_all (base n i g : Nat) (l : List Evn) (w : World) (h : w.ownsRow base 38 12 (.slice (some ⟨g, 0, none⟩) n n) n (nv l)) (hn : n = l.length) (hij : n = i + 1) (hl : n ≤ 60)  : Calls Try.prog 11 #[.slice (some ⟨g, 0, none⟩) n n, .int .i64 (i : Int)] w fun e w' => ∃ A' c', e = .returned (.slice A' (i + 0) c') ∧ w'.ownsRow w.heap.size 38 12 (.slice A' (i + 0) c') (i + 0) (nv (l.take i ++ l.drop n)) ∧ Below w.heap.size w w' := by
  obtain ⟨i0, hi0, hz0, hz1, hz2⟩ := info_parts infoE
  have HI0 := Lib.hid hi0
  have HZ0 := Lib.hid hz0
  have HZ1 := Lib.hid hz1
  have HZ2 := Lib.hid hz2
  have hR := Reads.of_own h
  obtain ⟨hnc, hcm⟩ : n ≤ n ∧ n ≤ maxLen := by
    rcases h.2 with ⟨h0, _⟩ | ⟨g', cap, cur, hv, _, _, h1, h2, _⟩
    · cases h0
    · injection hv with e1 e2 e3
      try subst e3
      exact ⟨h1, h2⟩
  have hcm2 : (n : Int) ≤ 9223372036854775807 := by unfold maxLen at hcm; omega
  have hj1 : n ≤ n := by omega
  have li : (l.take i).length = i := by rw [List.length_take]; omega
  have lj : (l.drop n).length = n - n := by rw [List.length_drop]; omega
  have hR1 : Reads w w.heap.size 12 (some ⟨g, 0, none⟩) i (nv (l.take i)) := by
    rw [nv_take]
    exact hR.takeE (by omega)
  have hR2 : Reads w w.heap.size 12 (some ⟨g, 0, none⟩) 0 (nv (l.drop n)) := by
    have hz : l.drop n = [] := List.drop_eq_nil_of_le (by omega)
    rw [hz]
    exact Reads.none_
  have hb1 : Below w.heap.size w (w.drew.alloc (.cells #[] 38)) := (Below.drew (Below.refl _ _)).alloc (Nat.le_refl _) _
  have HO := Lib.hid (World.ownsRow_lit (base := w.heap.size) (e := 38) (size := 12) w.drew #[] 0 (Nat.le_refl _) (by unfold maxLen; omega) rfl)
  have HR1 := Lib.hid (hR1.below hb1)
  have HR2 := Lib.hid hR2
  have HB1 := Lib.hid hb1
  have HNV := Lib.hid (nv_append (l.take i) (l.drop n))
  have HJ := Lib.hid hij
  have W1 : IntKind.i64.wrap ((i : Int) + 1) = (n : Int) := by rw [IntWalk.i64_in _ (by omega)]; omega
  have M1 := Lib.hid (show 0 + i ≤ maxLen from by unfold maxLen; omega)
  have M2 := Lib.hid (show (0 + i) * 96 ≤ 140737488355328 from by omega)
  have M3 := Lib.hid (show w.heap.size ≤ (w.drew.alloc (.cells #[] 38)).heap.size from hb1.size)
  have M4 := Lib.hid (show i + 0 ≤ maxLen from by unfold maxLen; omega)
  have M5 := Lib.hid (show (i + 0) * 96 ≤ 140737488355328 from by omega)
  have i0' : (0 : Int) ≤ (i : Int) := by omega
  have i1 : (i : Int) ≤ (n : Int) := by omega
  have i2 : (i : Int) ≤ (n : Int) := by omega
  have j0 : (0 : Int) ≤ (n : Int) := by omega
  have j1 : (n : Int) ≤ (n : Int) := by omega
  have j2 : (n : Int) ≤ (n : Int) := by omega
  have j3 : (n : Int) ≤ (n : Int) := by omega
  clear hR h hR1 hR2 hb1 hcm hn hij hl li lj hi0 hz0 hz1 hz2
  generalize hT : l.take i = LT at *
  generalize hD : l.drop n = LD at *
  clear hT hD
  go_enter Try.func11, Try.ntmps11
  go_wp2_with fail
  refine wp_region_held_drew (S := fun w' => True) (by kernel_rfl) trivial (fun hHeld => ?_)
  refine wpAnyH_take (i := 1) (oi := { dst := some 6, op := Op.move (Operand.tmp 0), type := 24, pos := "law.go:49", after := #[], guard := none }) (v := ?_) rfl (by as_aux_lemma => kernel_rfl) (by as_aux_lemma => kernel_rfl) (by as_aux_lemma => kernel_rfl) (fun _ _ _ h => h) (Or.inl ⟨by rfl, ?_⟩) (by assumption) ?_
  rotate_left
  · intro wq hSw
    go_simp
    try with_reducible rfl
  simp only [Act.put, List.setIfInBounds_toArray, List.set_cons_zero, List.set_cons_succ]
  refine wpAnyH_take (i := 2) (oi := { dst := some 7, op := Op.move (Operand.tmp 1), type := 3, pos := "law.go:49", after := #[], guard := none }) (v := ?_) rfl (by as_aux_lemma => kernel_rfl) (by as_aux_lemma => kernel_rfl) (by as_aux_lemma => kernel_rfl) (fun _ _ _ h => h) (Or.inl ⟨by rfl, ?_⟩) (by assumption) ?_
  rotate_left
  · intro wq hSw
    go_simp
    try with_reducible rfl
  simp only [Act.put, List.setIfInBounds_toArray, List.set_cons_zero, List.set_cons_succ]
  refine wpAnyH_take (i := 3) (oi := { dst := some 8, op := Op.slice 24 (Operand.tmp 6) none (some (Operand.tmp 7)) none, type := 24, pos := "law.go:49", after := #[{ on := 1, ground := Ground.data }, { on := 2, ground := Ground.data }], guard := none }) (v := .slice (some ⟨g, 0, none⟩) i n) rfl (by as_aux_lemma => kernel_rfl) (by as_aux_lemma => kernel_rfl) (by as_aux_lemma => kernel_rfl) (fun _ _ _ h => h) (Or.inl ⟨by rfl, ?_⟩) (by assumption) ?_
  · intro wq hSw
    go_simp
    try with_reducible rfl
  simp only [Act.put, List.setIfInBounds_toArray, List.set_cons_zero, List.set_cons_succ]
  refine wpAnyH_take (i := 5) (oi := { dst := some 10, op := Op.move (Operand.tmp 0), type := 24, pos := "law.go:49", after := #[], guard := none }) (v := ?_) rfl (by as_aux_lemma => kernel_rfl) (by as_aux_lemma => kernel_rfl) (by as_aux_lemma => kernel_rfl) (fun _ _ _ h => h) (Or.inl ⟨by rfl, ?_⟩) (by assumption) ?_
  rotate_left
  · intro wq hSw
    go_simp
    try with_reducible rfl
  simp only [Act.put, List.setIfInBounds_toArray, List.set_cons_zero, List.set_cons_succ]
  refine wpAnyH_take (i := 6) (oi := { dst := some 11, op := Op.move (Operand.tmp 1), type := 3, pos := "law.go:49", after := #[], guard := none }) (v := ?_) rfl (by as_aux_lemma => kernel_rfl) (by as_aux_lemma => kernel_rfl) (by as_aux_lemma => kernel_rfl) (fun _ _ _ h => h) (Or.inl ⟨by rfl, ?_⟩) (by assumption) ?_
  rotate_left
  · intro wq hSw
    go_simp
    try with_reducible rfl
  simp only [Act.put, List.setIfInBounds_toArray, List.set_cons_zero, List.set_cons_succ]
  refine wpAnyH_take (i := 7) (oi := { dst := some 12, op := Op.binOp BinOp.add 3 (Operand.tmp 11) (Operand.const (Value.int IntKind.i64 1)) 3, type := 3, pos := "law.go:49", after := #[{ on := 6, ground := Ground.data }], guard := none }) (v := .int .i64 (n : Int)) rfl (by as_aux_lemma => kernel_rfl) (by as_aux_lemma => kernel_rfl) (by as_aux_lemma => kernel_rfl) (fun _ _ _ h => h) (Or.inl ⟨by rfl, ?_⟩) (by assumption) ?_
  · intro wq hSw
    go_simp
    try with_reducible rfl
  simp only [Act.put, List.setIfInBounds_toArray, List.set_cons_zero, List.set_cons_succ]
  refine wpAnyH_take (i := 8) (oi := { dst := some 13, op := Op.slice 24 (Operand.tmp 10) (some (Operand.tmp 12)) none none, type := 24, pos := "law.go:49", after := #[{ on := 5, ground := Ground.data }, { on := 7, ground := Ground.data }], guard := none }) (v := .slice (some ⟨g, 0, none⟩) 0 0) rfl (by as_aux_lemma => kernel_rfl) (by as_aux_lemma => kernel_rfl) (by as_aux_lemma => kernel_rfl) (fun _ _ _ h => h) (Or.inl ⟨by rfl, ?_⟩) (by assumption) ?_
  · intro wq hSw
    go_simp
    try with_reducible rfl
  simp only [Act.put, List.setIfInBounds_toArray, List.set_cons_zero, List.set_cons_succ]
  refine wpAnyH_ready (rs := [0]) (by as_aux_lemma => kernel_rfl) (by simp) ?_
  refine AllReadyH.cons (o := { dst := some 5, op := Op.buildSlice 24 0 #[], type := 24, pos := "law.go:49", after := #[], guard := none }) rfl (fun K hK => ?_) AllReadyH.nil
  go_simp
  refine hK.out _ _ trivial (fun hHeld => ?_)
  clear hK K
  try simp only [Act.put, List.setIfInBounds_toArray, List.set_cons_zero, List.set_cons_succ]
  refine wpAnyH_ready (rs := [4]) (by as_aux_lemma => kernel_rfl) (by simp) ?_
  refine AllReadyH.cons (o := { dst := some 9, op := Op.call { callee := Callee.builtin Builtin.append, args := #[Operand.tmp 5, Operand.tmp 8], argTypes := #[24, 24] }, type := 24, pos := "law.go:49", after := #[{ on := 0, ground := Ground.data }, { on := 3, ground := Ground.data }], guard := none }) rfl (fun K hK => ?_) AllReadyH.nil
  refine step_append_any _ rfl (.tmp 5) (.tmp 8) 24 rfl w.heap.size 38 i0 (Value.agg #[.int .i64 0, .int .i64 0, .int .i64 0, .int .i64 0, .int .i64 0, .int .i64 0, .int .i64 0, .int .i64 0, .int .i64 0, .int .i64 0, .int .i64 0, .int .i64 0]) 12 96 Try.underlying24 HI0.out HZ0.out HZ1.out HZ2.out rfl (by decide) _ 0 _ (by simp [Act.eval, Act.put]) HO.out _ (some ⟨g, 0, none⟩) i n (nv LT) (by simp [Act.eval, Act.put]) HR1.out (nv_one _) M1.out M2.out M3.out ?_
  intro v3 w3 hown3 hgrow3 hblk3
  obtain ⟨A3, c3, rfl⟩ := oshape hown3
  rw [Nat.zero_add] at hown3
  have hb3 : Below w.heap.size w w3 := Below.grown HB1.out hgrow3 M3.out (fun g e => (HO.out.lt g e).1)
  have HO3 := Lib.hid hown3
  have HR3 := Lib.hid (HR2.out.below hb3)
  have M6 := Lib.hid hb3.size
  have HB3 := Lib.hid hb3
  refine hK.out _ _ trivial (fun hHeld => ?_)
  clear hK K hb3 hown3 hgrow3 hblk3
  try simp only [Act.put, List.setIfInBounds_toArray, List.set_cons_zero, List.set_cons_succ]
  refine wpAnyH_ready (rs := [9]) (by as_aux_lemma => kernel_rfl) (by simp) ?_
  refine AllReadyH.cons (o := { dst := some 14, op := Op.call { callee := Callee.builtin Builtin.append, args := #[Operand.tmp 9, Operand.tmp 13], argTypes := #[24, 24] }, type := 24, pos := "law.go:49", after := #[{ on := 4, ground := Ground.data }, { on := 8, ground := Ground.data }, { on := 4, ground := Ground.chain }], guard := none }) rfl (fun K hK => ?_) AllReadyH.nil
  refine step_append_any _ rfl (.tmp 9) (.tmp 13) 24 rfl w.heap.size 38 i0 (Value.agg #[.int .i64 0, .int .i64 0, .int .i64 0, .int .i64 0, .int .i64 0, .int .i64 0, .int .i64 0, .int .i64 0, .int .i64 0, .int .i64 0, .int .i64 0, .int .i64 0]) 12 96 Try.underlying24 HI0.out HZ0.out HZ1.out HZ2.out rfl (by decide) _ i _ (by simp [Act.eval, Act.put]) HO3.out _ (some ⟨g, 0, none⟩) 0 0 (nv LD) (by simp [Act.eval, Act.put]) HR3.out (nv_one _) M4.out M5.out M6.out ?_
  intro v4 w4 hown4 hgrow4 hblk4
  obtain ⟨A4, c4, rfl⟩ := oshape hown4
  have hb4 : Below w.heap.size w w4 := Below.grown HB3.out hgrow4 M6.out (fun g e => (HO3.out.lt g e).1)
  have HO4 := Lib.hid hown4
  have HB4 := Lib.hid hb4
  refine hK.out _ _ trivial (fun hHeld => ?_)
  clear hK K hb4 hown4 hgrow4 hblk4
  try simp only [Act.put, List.setIfInBounds_toArray, List.set_cons_zero, List.set_cons_succ]
  refine wpAnyH_take (i := 10) (oi := { dst := some 4, op := Op.assign (Operand.tmp 14), type := 24, pos := "law.go:49", after := #[{ on := 9, ground := Ground.data }, { on := 9, ground := Ground.chain }, { on := 0, ground := Ground.phase }, { on := 1, ground := Ground.phase }, { on := 2, ground := Ground.phase }, { on := 3, ground := Ground.phase }, { on := 4, ground := Ground.phase }, { on := 5, ground := Ground.phase }, { on := 6, ground := Ground.phase }, { on := 7, ground := Ground.phase }, { on := 8, ground := Ground.phase }, { on := 9, ground := Ground.phase }], guard := none }) (v := ?_) rfl (by as_aux_lemma => kernel_rfl) (by as_aux_lemma => kernel_rfl) (by as_aux_lemma => kernel_rfl) (fun _ _ _ h => h) (Or.inl ⟨by rfl, ?_⟩) (by assumption) ?_
  rotate_left
  · intro wq hSw
    go_simp
    try with_reducible rfl
  simp only [Act.put, List.setIfInBounds_toArray, List.set_cons_zero, List.set_cons_succ]
  refine wpAnyH_done (by as_aux_lemma => kernel_rfl) ?_ _
  go_wp2_with fail
  go_ret
  rw [HNV.out]
  exact ⟨_, _, rfl, by simpa using HO4.out, HB4.out⟩
set_option maxRecDepth 100000 in
set_option maxHeartbeats 4000000 in
theorem lwo_top (base n c i g : Nat) (l : List Evn) (w : World) (h : w.ownsRow base 38 12 (.slice (some ⟨g, 0, none⟩) n c) n (nv l)) (hn : n = l.length) (hij : n = i + 1) (hl : n ≤ 60) (hcj : n < c) : Calls Try.prog 11 #[.slice (some ⟨g, 0, none⟩) n c, .int .i64 (i : Int)] w fun e w' => ∃ A' c', e = .returned (.slice A' (i + 0) c') ∧ w'.ownsRow w.heap.size 38 12 (.slice A' (i + 0) c') (i + 0) (nv (l.take i ++ l.drop n)) ∧ Below w.heap.size w w' := by
  obtain ⟨i0, hi0, hz0, hz1, hz2⟩ := info_parts infoE
  have HI0 := Lib.hid hi0
  have HZ0 := Lib.hid hz0
  have HZ1 := Lib.hid hz1
  have HZ2 := Lib.hid hz2
  have hR := Reads.of_own h
  obtain ⟨hnc, hcm⟩ : n ≤ c ∧ c ≤ maxLen := by
    rcases h.2 with ⟨h0, _⟩ | ⟨g', cap, cur, hv, _, _, h1, h2, _⟩
    · cases h0
    · injection hv with e1 e2 e3
      try subst e3
      exact ⟨h1, h2⟩
  have hcm2 : (c : Int) ≤ 9223372036854775807 := by unfold maxLen at hcm; omega
  have hj1 : n ≤ n := by omega
  have li : (l.take i).length = i := by rw [List.length_take]; omega
  have lj : (l.drop n).length = n - n := by rw [List.length_drop]; omega
  have hR1 : Reads w w.heap.size 12 (some ⟨g, 0, none⟩) i (nv (l.take i)) := by
    rw [nv_take]
    exact hR.takeE (by omega)
  have hR2 : Reads w w.heap.size 12 (some ⟨g, n * 12, none⟩) 0 (nv (l.drop n)) := by
    have hz : l.drop n = [] := List.drop_eq_nil_of_le (by omega)
    rw [hz]
    exact Reads.none_
  have hb1 : Below w.heap.size w (w.drew.alloc (.cells #[] 38)) := (Below.drew (Below.refl _ _)).alloc (Nat.le_refl _) _
  have HO := Lib.hid (World.ownsRow_lit (base := w.heap.size) (e := 38) (size := 12) w.drew #[] 0 (Nat.le_refl _) (by unfold maxLen; omega) rfl)
  have HR1 := Lib.hid (hR1.below hb1)
  have HR2 := Lib.hid hR2
  have HB1 := Lib.hid hb1
  have HNV := Lib.hid (nv_append (l.take i) (l.drop n))
  have HJ := Lib.hid hij
  have W1 : IntKind.i64.wrap ((i : Int) + 1) = (n : Int) := by rw [IntWalk.i64_in _ (by omega)]; omega
  have M1 := Lib.hid (show 0 + i ≤ maxLen from by unfold maxLen; omega)
  have M2 := Lib.hid (show (0 + i) * 96 ≤ 140737488355328 from by omega)
  have M3 := Lib.hid (show w.heap.size ≤ (w.drew.alloc (.cells #[] 38)).heap.size from hb1.size)
  have M4 := Lib.hid (show i + 0 ≤ maxLen from by unfold maxLen; omega)
  have M5 := Lib.hid (show (i + 0) * 96 ≤ 140737488355328 from by omega)
  have i0' : (0 : Int) ≤ (i : Int) := by omega
  have i1 : (i : Int) ≤ (c : Int) := by omega
  have i2 : (i : Int) ≤ (n : Int) := by omega
  have j0 : (0 : Int) ≤ (n : Int) := by omega
  have j1 : (n : Int) ≤ (n : Int) := by omega
  have j2 : (n : Int) ≤ (c : Int) := by omega
  have j3 : (n : Int) ≤ (c : Int) := by omega
  have jc : ¬ (c = n) := by omega
  have jc2 : ¬ ((c : Int) = (n : Int)) := by omega
  clear hR h hR1 hR2 hb1 hcm hn hij hl li lj hi0 hz0 hz1 hz2
  generalize hT : l.take i = LT at *
  generalize hD : l.drop n = LD at *
  clear hT hD
  go_enter Try.func11, Try.ntmps11
  go_wp2_with fail
  refine wp_region_held_drew (S := fun w' => True) (by kernel_rfl) trivial (fun hHeld => ?_)
  refine wpAnyH_take (i := 1) (oi := { dst := some 6, op := Op.move (Operand.tmp 0), type := 24, pos := "law.go:49", after := #[], guard := none }) (v := ?_) rfl (by as_aux_lemma => kernel_rfl) (by as_aux_lemma => kernel_rfl) (by as_aux_lemma => kernel_rfl) (fun _ _ _ h => h) (Or.inl ⟨by rfl, ?_⟩) (by assumption) ?_
  rotate_left
  · intro wq hSw
    go_simp
    try with_reducible rfl
  simp only [Act.put, List.setIfInBounds_toArray, List.set_cons_zero, List.set_cons_succ]
  refine wpAnyH_take (i := 2) (oi := { dst := some 7, op := Op.move (Operand.tmp 1), type := 3, pos := "law.go:49", after := #[], guard := none }) (v := ?_) rfl (by as_aux_lemma => kernel_rfl) (by as_aux_lemma => kernel_rfl) (by as_aux_lemma => kernel_rfl) (fun _ _ _ h => h) (Or.inl ⟨by rfl, ?_⟩) (by assumption) ?_
  rotate_left
  · intro wq hSw
    go_simp
    try with_reducible rfl
  simp only [Act.put, List.setIfInBounds_toArray, List.set_cons_zero, List.set_cons_succ]
  refine wpAnyH_take (i := 3) (oi := { dst := some 8, op := Op.slice 24 (Operand.tmp 6) none (some (Operand.tmp 7)) none, type := 24, pos := "law.go:49", after := #[{ on := 1, ground := Ground.data }, { on := 2, ground := Ground.data }], guard := none }) (v := .slice (some ⟨g, 0, none⟩) i c) rfl (by as_aux_lemma => kernel_rfl) (by as_aux_lemma => kernel_rfl) (by as_aux_lemma => kernel_rfl) (fun _ _ _ h => h) (Or.inl ⟨by rfl, ?_⟩) (by assumption) ?_
  · intro wq hSw
    go_simp
    try with_reducible rfl
  simp only [Act.put, List.setIfInBounds_toArray, List.set_cons_zero, List.set_cons_succ]
  refine wpAnyH_take (i := 5) (oi := { dst := some 10, op := Op.move (Operand.tmp 0), type := 24, pos := "law.go:49", after := #[], guard := none }) (v := ?_) rfl (by as_aux_lemma => kernel_rfl) (by as_aux_lemma => kernel_rfl) (by as_aux_lemma => kernel_rfl) (fun _ _ _ h => h) (Or.inl ⟨by rfl, ?_⟩) (by assumption) ?_
  rotate_left
  · intro wq hSw
    go_simp
    try with_reducible rfl
  simp only [Act.put, List.setIfInBounds_toArray, List.set_cons_zero, List.set_cons_succ]
  refine wpAnyH_take (i := 6) (oi := { dst := some 11, op := Op.move (Operand.tmp 1), type := 3, pos := "law.go:49", after := #[], guard := none }) (v := ?_) rfl (by as_aux_lemma => kernel_rfl) (by as_aux_lemma => kernel_rfl) (by as_aux_lemma => kernel_rfl) (fun _ _ _ h => h) (Or.inl ⟨by rfl, ?_⟩) (by assumption) ?_
  rotate_left
  · intro wq hSw
    go_simp
    try with_reducible rfl
  simp only [Act.put, List.setIfInBounds_toArray, List.set_cons_zero, List.set_cons_succ]
  refine wpAnyH_take (i := 7) (oi := { dst := some 12, op := Op.binOp BinOp.add 3 (Operand.tmp 11) (Operand.const (Value.int IntKind.i64 1)) 3, type := 3, pos := "law.go:49", after := #[{ on := 6, ground := Ground.data }], guard := none }) (v := .int .i64 (n : Int)) rfl (by as_aux_lemma => kernel_rfl) (by as_aux_lemma => kernel_rfl) (by as_aux_lemma => kernel_rfl) (fun _ _ _ h => h) (Or.inl ⟨by rfl, ?_⟩) (by assumption) ?_
  · intro wq hSw
    go_simp
    try with_reducible rfl
  simp only [Act.put, List.setIfInBounds_toArray, List.set_cons_zero, List.set_cons_succ]
  refine wpAnyH_take (i := 8) (oi := { dst := some 13, op := Op.slice 24 (Operand.tmp 10) (some (Operand.tmp 12)) none none, type := 24, pos := "law.go:49", after := #[{ on := 5, ground := Ground.data }, { on := 7, ground := Ground.data }], guard := none }) (v := .slice (some ⟨g, n * 12, none⟩) 0 (c - n)) rfl (by as_aux_lemma => kernel_rfl) (by as_aux_lemma => kernel_rfl) (by as_aux_lemma => kernel_rfl) (fun _ _ _ h => h) (Or.inl ⟨by rfl, ?_⟩) (by assumption) ?_
  · intro wq hSw
    go_simp
    try with_reducible rfl
  simp only [Act.put, List.setIfInBounds_toArray, List.set_cons_zero, List.set_cons_succ]
  refine wpAnyH_ready (rs := [0]) (by as_aux_lemma => kernel_rfl) (by simp) ?_
  refine AllReadyH.cons (o := { dst := some 5, op := Op.buildSlice 24 0 #[], type := 24, pos := "law.go:49", after := #[], guard := none }) rfl (fun K hK => ?_) AllReadyH.nil
  go_simp
  refine hK.out _ _ trivial (fun hHeld => ?_)
  clear hK K
  try simp only [Act.put, List.setIfInBounds_toArray, List.set_cons_zero, List.set_cons_succ]
  refine wpAnyH_ready (rs := [4]) (by as_aux_lemma => kernel_rfl) (by simp) ?_
  refine AllReadyH.cons (o := { dst := some 9, op := Op.call { callee := Callee.builtin Builtin.append, args := #[Operand.tmp 5, Operand.tmp 8], argTypes := #[24, 24] }, type := 24, pos := "law.go:49", after := #[{ on := 0, ground := Ground.data }, { on := 3, ground := Ground.data }], guard := none }) rfl (fun K hK => ?_) AllReadyH.nil
  refine step_append_any _ rfl (.tmp 5) (.tmp 8) 24 rfl w.heap.size 38 i0 (Value.agg #[.int .i64 0, .int .i64 0, .int .i64 0, .int .i64 0, .int .i64 0, .int .i64 0, .int .i64 0, .int .i64 0, .int .i64 0, .int .i64 0, .int .i64 0, .int .i64 0]) 12 96 Try.underlying24 HI0.out HZ0.out HZ1.out HZ2.out rfl (by decide) _ 0 _ (by simp [Act.eval, Act.put]) HO.out _ (some ⟨g, 0, none⟩) i c (nv LT) (by simp [Act.eval, Act.put]) HR1.out (nv_one _) M1.out M2.out M3.out ?_
  intro v3 w3 hown3 hgrow3 hblk3
  obtain ⟨A3, c3, rfl⟩ := oshape hown3
  rw [Nat.zero_add] at hown3
  have hb3 : Below w.heap.size w w3 := Below.grown HB1.out hgrow3 M3.out (fun g e => (HO.out.lt g e).1)
  have HO3 := Lib.hid hown3
  have HR3 := Lib.hid (HR2.out.below hb3)
  have M6 := Lib.hid hb3.size
  have HB3 := Lib.hid hb3
  refine hK.out _ _ trivial (fun hHeld => ?_)
  clear hK K hb3 hown3 hgrow3 hblk3
  try simp only [Act.put, List.setIfInBounds_toArray, List.set_cons_zero, List.set_cons_succ]
  refine wpAnyH_ready (rs := [9]) (by as_aux_lemma => kernel_rfl) (by simp) ?_
  refine AllReadyH.cons (o := { dst := some 14, op := Op.call { callee := Callee.builtin Builtin.append, args := #[Operand.tmp 9, Operand.tmp 13], argTypes := #[24, 24] }, type := 24, pos := "law.go:49", after := #[{ on := 4, ground := Ground.data }, { on := 8, ground := Ground.data }, { on := 4, ground := Ground.chain }], guard := none }) rfl (fun K hK => ?_) AllReadyH.nil
  refine step_append_any _ rfl (.tmp 9) (.tmp 13) 24 rfl w.heap.size 38 i0 (Value.agg #[.int .i64 0, .int .i64 0, .int .i64 0, .int .i64 0, .int .i64 0, .int .i64 0, .int .i64 0, .int .i64 0, .int .i64 0, .int .i64 0, .int .i64 0, .int .i64 0]) 12 96 Try.underlying24 HI0.out HZ0.out HZ1.out HZ2.out rfl (by decide) _ i _ (by simp [Act.eval, Act.put]) HO3.out _ (some ⟨g, n * 12, none⟩) 0 (c - n) (nv LD) (by simp [Act.eval, Act.put]) HR3.out (nv_one _) M4.out M5.out M6.out ?_
  intro v4 w4 hown4 hgrow4 hblk4
  obtain ⟨A4, c4, rfl⟩ := oshape hown4
  have hb4 : Below w.heap.size w w4 := Below.grown HB3.out hgrow4 M6.out (fun g e => (HO3.out.lt g e).1)
  have HO4 := Lib.hid hown4
  have HB4 := Lib.hid hb4
  refine hK.out _ _ trivial (fun hHeld => ?_)
  clear hK K hb4 hown4 hgrow4 hblk4
  try simp only [Act.put, List.setIfInBounds_toArray, List.set_cons_zero, List.set_cons_succ]
  refine wpAnyH_take (i := 10) (oi := { dst := some 4, op := Op.assign (Operand.tmp 14), type := 24, pos := "law.go:49", after := #[{ on := 9, ground := Ground.data }, { on := 9, ground := Ground.chain }, { on := 0, ground := Ground.phase }, { on := 1, ground := Ground.phase }, { on := 2, ground := Ground.phase }, { on := 3, ground := Ground.phase }, { on := 4, ground := Ground.phase }, { on := 5, ground := Ground.phase }, { on := 6, ground := Ground.phase }, { on := 7, ground := Ground.phase }, { on := 8, ground := Ground.phase }, { on := 9, ground := Ground.phase }], guard := none }) (v := ?_) rfl (by as_aux_lemma => kernel_rfl) (by as_aux_lemma => kernel_rfl) (by as_aux_lemma => kernel_rfl) (fun _ _ _ h => h) (Or.inl ⟨by rfl, ?_⟩) (by assumption) ?_
  rotate_left
  · intro wq hSw
    go_simp
    try with_reducible rfl
  simp only [Act.put, List.setIfInBounds_toArray, List.set_cons_zero, List.set_cons_succ]
  refine wpAnyH_done (by as_aux_lemma => kernel_rfl) ?_ _
  go_wp2_with fail
  go_ret
  rw [HNV.out]
  exact ⟨_, _, rfl, by simpa using HO4.out, HB4.out⟩
theorem lwo_is (base : Nat) (A : Option Addr) (n c i : Nat) (l : List Evn) (w : World) (h : w.ownsRow base 38 12 (.slice A n c) n (nv l)) (hn : n = l.length) (hi : i < n) (hl : n ≤ 60) : Calls Try.prog 11 #[.slice A n c, .int .i64 (i : Int)] w fun e w' => ∃ A' c', e = .returned (.slice A' (n - 1) c') ∧ w'.ownsRow w.heap.size 38 12 (.slice A' (n - 1) c') (n - 1) (nv (l.eraseIdx i)) ∧ Below w.heap.size w w' := by
  obtain ⟨g, rfl, hnc⟩ : ∃ g, A = some ⟨g, 0, none⟩ ∧ n ≤ c := by
    rcases h.2 with ⟨h0, _⟩ | ⟨g', cap, cur, hv, _, _, h1, h2, _⟩
    · injection h0 with e1 e2 e3
      omega
    · injection hv with e1 e2 e3
      exact ⟨g', e1, by omega⟩
  have he : l.take i ++ l.drop (i + 1) = l.eraseIdx i := by rw [List.eraseIdx_eq_take_drop_succ]
  have hk : i + (n - (i + 1)) = n - 1 := by omega
  rw [← he]
  by_cases h1 : i + 1 < n
  · have h2 := lwo_lt base n c i (i + 1) g l w h hn rfl hl h1
    rw [hk] at h2
    exact h2
  · have h2 : n = i + 1 := by omega
    have e3 : i + 0 = n - 1 := by omega
    by_cases h3 : c = n
    · subst h3
      have h4 := lwo_all base c i g l w h hn h2 hl
      rw [e3] at h4
      rw [← h2]
      exact h4
    · have h4 := lwo_top base n c i g l w h hn h2 hl (by omega)
      rw [e3] at h4
      rw [← h2]
      exact h4
end Go.Proofs.Ytfdjbhlpkfbgnaa

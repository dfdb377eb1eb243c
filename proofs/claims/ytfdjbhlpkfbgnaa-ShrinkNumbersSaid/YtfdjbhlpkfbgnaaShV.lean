/-
  A script without its end.
-/
import Derived.Test.YtfdjbhlpkfbgnaaRows
import Derived.Test.YtfdjbhlpkfbgnaaKit
import Derived.Test.YtfdjbhlpkfbgnaaApp
import Derived.Test.YtfdjbhlpkfbgnaaQuiet
import Derived.Test.YtfdjbhlpkfbgnaaShM
import Derived.Test.YtfdjbhlpkfbgnaaShO
import Derived.Test.YtfdjbhlpkfbgnaaShB
import Derived.Test.YtfdjbhlpkfbgnaaShC
import Derived.Test.YtfdjbhlpkfbgnaaShD
import Derived.Test.YtfdjbhlpkfbgnaaShE
import Derived.Test.YtfdjbhlpkfbgnaaShU
import Derived.WalkKit
import Derived.ProofKit
import Derived.OpenShut
import Derived.ShutString
import Derived.Below
import Derived.Outline
import Derived.WalkLawsBesides
import Derived.WalkSpells
import Derived.Handy
import Derived.Deep.QuietTactic
import Derived.BigQuiet
import Derived.RegionTactic
import Derived.ChangeAlike
import Derived.Lib.Hide
import Derived.Laws.Rows
import Derived.Laws.Tables
import Derived.Laws.CopyOwn
import Derived.Laws.MakeOwn
import Derived.Laws.Entries
import Derived.Laws.OwnMore
import Derived.Deep.WholeRow
import Derived.Deep.LoopGhost
import Derived.Deep.AppendLies
import Derived.Deep.Draws
import Derived.Maps.AppendAt
import Derived.OwnWalk
import Derived.Deep.RegionHeld3
import Derived.Deep.Cut
import Derived.Deep.CutRange
import Derived.Deep.DeepCutAuto
import Derived.Deep.CutBlock
import Derived.Lib.SliceRun
import Derived.IntWalk
namespace Go.Proofs.Ytfdjbhlpkfbgnaa
open Go.ChangeShapes Go.WideShapes Go.ChangeAt Go.RowKit
set_option maxRecDepth 100000 in
set_option maxHeartbeats 8000000 in
theorem cut_all (base n i g : Nat) (l : List Evn) (w : World) (h : w.ownsRow base 38 12 (.slice (some ⟨g, 0, none⟩) n n) n (nv l)) (hn : n = l.length) (hij : i ≤ n) (hl : n ≤ 60) (hj0 : 0 < n) : Calls Try.prog 28 #[.slice (some ⟨g, 0, none⟩) n n, .int .i64 (i : Int), .int .i64 (n : Int)] w fun e w' => ∃ A' c', e = .returned (.slice A' (l.take i ++ l.drop n).length c') ∧ w'.ownsRow w.heap.size 38 12 (.slice A' (l.take i ++ l.drop n).length c') (l.take i ++ l.drop n).length (nv (l.take i ++ l.drop n)) ∧ Below w.heap.size w w' := by
  have hR := Reads.of_own h
  obtain ⟨hnc, hcm⟩ : n ≤ n ∧ n ≤ maxLen := by
    rcases h.2 with ⟨h0, _⟩ | ⟨g', cap, cur, hv, _, _, h1, h2, _⟩
    · cases h0
    · injection hv with e1 e2 e3
      try subst e3
      exact ⟨h1, h2⟩
  have hcm2 : (n : Int) ≤ 9223372036854775807 := by unfold maxLen at hcm; omega
  have hj1 : n ≤ n := by omega
  have li : (l.take i).length = i := by rw [List.length_take]; omega
  have lj : (l.drop n).length = 0 := by rw [List.length_drop]; omega
  have hR1 : Reads w w.heap.size 12 (some ⟨g, 0, none⟩) (l.take i).length (nv (l.take i)) := by
    rw [li, nv_take]
    exact hR.takeE (by omega)
  have hR2 : Reads w w.heap.size 12 (some ⟨g, 0, none⟩) (l.drop n).length (nv (l.drop n)) := by
    rw [lj]
    have hz : l.drop n = [] := List.drop_eq_nil_of_le (by omega)
    rw [hz]
    exact Reads.none_
  obtain ⟨W, hW⟩ : ∃ W, W = (w.alloc (.cells (List.toArray [.slice (some ⟨g, 0, none⟩) (l.take i).length n, .slice (some ⟨g, 0, none⟩) (l.drop n).length 0]) 24)).drew := ⟨_, rfl⟩
  have bW : Bl w.heap.size [.slice (some ⟨g, 0, none⟩) (l.take i).length n, .slice (some ⟨g, 0, none⟩) (l.drop n).length 0] W := by
    rw [hW]
    exact Bl.new w [.slice (some ⟨g, 0, none⟩) (l.take i).length n, .slice (some ⟨g, 0, none⟩) (l.drop n).length 0] 24
  have hbW : Below w.heap.size w W := by rw [hW]; exact Below.drew ((Below.refl _ _).alloc (Nat.le_refl _) _)
  have hszW : W.heap.size = w.heap.size + 1 := by rw [hW]; exact World.size_alloc w _
  have HC := Lib.hid (concat_is w.heap.size (some ⟨g, 0, none⟩) (some ⟨g, 0, none⟩) (l.take i) (l.drop n) n 0 W (bW.cell 0 _ rfl) (bW.cell 1 _ rfl) (by omega) ((hR1.below hbW).more (by omega)) ((hR2.below hbW).more (by omega)) (by rw [li, lj]; omega))
  have HBW := Lib.hid hbW
  have HSW := Lib.hid hszW
  rw [hW, li, lj] at HC
  rw [li, lj] at hW
  have i0 : (0 : Int) ≤ (i : Int) := by omega
  have i1 : (i : Int) ≤ (n : Int) := by omega
  have i2 : (i : Int) ≤ (n : Int) := by omega
  have j0 : (0 : Int) ≤ (n : Int) := by omega
  have j1 : (n : Int) ≤ (n : Int) := by omega
  have j2 : (n : Int) ≤ (n : Int) := by omega
  have j3 : (n : Int) ≤ (n : Int) := by omega
  clear hR h hR1 hR2 bW hbW hszW hcm hn hij hl li lj
  generalize l.take i ++ l.drop n = LL at *
  go_enter Try.func28, Try.ntmps28
  go_wp2_with fail
  refine wp_region_held_drew (S := fun w' => True) (by kernel_rfl) trivial (fun hHeld => ?_)
  refine wpAnyH_take (i := 0) (oi := { dst := some 7, op := Op.move (Operand.tmp 0), type := 24, pos := "shrink.go:41", after := #[], guard := none }) (v := ?_) rfl (by as_aux_lemma => kernel_rfl) (by as_aux_lemma => kernel_rfl) (by as_aux_lemma => kernel_rfl) (fun _ _ _ h => h) (Or.inl ⟨by rfl, ?_⟩) (by assumption) ?_
  rotate_left
  · intro wq hSw
    go_simp
    try with_reducible rfl
  simp only [Act.put, List.setIfInBounds_toArray, List.set_cons_zero, List.set_cons_succ]
  refine wpAnyH_take (i := 1) (oi := { dst := some 8, op := Op.move (Operand.tmp 1), type := 3, pos := "shrink.go:41", after := #[], guard := none }) (v := ?_) rfl (by as_aux_lemma => kernel_rfl) (by as_aux_lemma => kernel_rfl) (by as_aux_lemma => kernel_rfl) (fun _ _ _ h => h) (Or.inl ⟨by rfl, ?_⟩) (by assumption) ?_
  rotate_left
  · intro wq hSw
    go_simp
    try with_reducible rfl
  simp only [Act.put, List.setIfInBounds_toArray, List.set_cons_zero, List.set_cons_succ]
  refine wpAnyH_take (i := 2) (oi := { dst := some 9, op := Op.slice 24 (Operand.tmp 7) none (some (Operand.tmp 8)) none, type := 24, pos := "shrink.go:41", after := #[{ on := 0, ground := Ground.data }, { on := 1, ground := Ground.data }], guard := none }) (v := .slice (some ⟨g, 0, none⟩) i n) rfl (by as_aux_lemma => kernel_rfl) (by as_aux_lemma => kernel_rfl) (by as_aux_lemma => kernel_rfl) (fun _ _ _ h => h) (Or.inl ⟨by rfl, ?_⟩) (by assumption) ?_
  · intro wq hSw
    go_simp
    try with_reducible rfl
  simp only [Act.put, List.setIfInBounds_toArray, List.set_cons_zero, List.set_cons_succ]
  refine wpAnyH_take (i := 3) (oi := { dst := some 10, op := Op.move (Operand.tmp 0), type := 24, pos := "shrink.go:41", after := #[], guard := none }) (v := ?_) rfl (by as_aux_lemma => kernel_rfl) (by as_aux_lemma => kernel_rfl) (by as_aux_lemma => kernel_rfl) (fun _ _ _ h => h) (Or.inl ⟨by rfl, ?_⟩) (by assumption) ?_
  rotate_left
  · intro wq hSw
    go_simp
    try with_reducible rfl
  simp only [Act.put, List.setIfInBounds_toArray, List.set_cons_zero, List.set_cons_succ]
  refine wpAnyH_take (i := 4) (oi := { dst := some 11, op := Op.move (Operand.tmp 2), type := 3, pos := "shrink.go:41", after := #[], guard := none }) (v := ?_) rfl (by as_aux_lemma => kernel_rfl) (by as_aux_lemma => kernel_rfl) (by as_aux_lemma => kernel_rfl) (fun _ _ _ h => h) (Or.inl ⟨by rfl, ?_⟩) (by assumption) ?_
  rotate_left
  · intro wq hSw
    go_simp
    try with_reducible rfl
  simp only [Act.put, List.setIfInBounds_toArray, List.set_cons_zero, List.set_cons_succ]
  refine wpAnyH_take (i := 5) (oi := { dst := some 12, op := Op.slice 24 (Operand.tmp 10) (some (Operand.tmp 11)) none none, type := 24, pos := "shrink.go:41", after := #[{ on := 3, ground := Ground.data }, { on := 4, ground := Ground.data }], guard := none }) (v := .slice (some ⟨g, 0, none⟩) 0 0) rfl (by as_aux_lemma => kernel_rfl) (by as_aux_lemma => kernel_rfl) (by as_aux_lemma => kernel_rfl) (fun _ _ _ h => h) (Or.inl ⟨by rfl, ?_⟩) (by assumption) ?_
  · intro wq hSw
    go_simp
    try with_reducible rfl
  simp only [Act.put, List.setIfInBounds_toArray, List.set_cons_zero, List.set_cons_succ]
  refine wpAnyH_ready (rs := [6]) (by as_aux_lemma => kernel_rfl) (by simp) ?_
  refine AllReadyH.cons (o := { dst := some 13, op := Op.buildSlice 54 2 #[(0, Operand.tmp 9), (1, Operand.tmp 12)], type := 54, pos := "shrink.go:41", after := #[{ on := 2, ground := Ground.data }, { on := 5, ground := Ground.data }], guard := none }) rfl (fun K hK => ?_) AllReadyH.nil
  go_simp
  refine hK.out _ _ trivial (fun hHeld => ?_)
  clear hK K
  try simp only [Act.put, List.setIfInBounds_toArray, List.set_cons_zero, List.set_cons_succ]
  refine wpAnyH_ready (rs := [7]) (by as_aux_lemma => kernel_rfl) (by simp) ?_
  refine AllReadyH.cons (o := { dst := some 14, op := Op.call { callee := Callee.value (Operand.func 29), args := #[Operand.tmp 13], argTypes := #[54] }, type := 24, pos := "shrink.go:41", after := #[{ on := 6, ground := Ground.data }], guard := none }) rfl (fun K hK => ?_) AllReadyH.nil
  go_simp
  go_at_call 29
  refine HC.out.mono ?_
  rintro ey wy ⟨A', c', rfl, ho, hby⟩
  have HO := Lib.hid ho
  have HBY := Lib.hid hby
  refine hK.out _ _ trivial (fun hHeld => ?_)
  clear hK K ho hby
  try simp only [Act.put, List.setIfInBounds_toArray, List.set_cons_zero, List.set_cons_succ]
  refine wpAnyH_take (i := 8) (oi := { dst := some 6, op := Op.assign (Operand.tmp 14), type := 24, pos := "shrink.go:41", after := #[{ on := 7, ground := Ground.data }, { on := 7, ground := Ground.chain }, { on := 0, ground := Ground.phase }, { on := 1, ground := Ground.phase }, { on := 2, ground := Ground.phase }, { on := 3, ground := Ground.phase }, { on := 4, ground := Ground.phase }, { on := 5, ground := Ground.phase }, { on := 6, ground := Ground.phase }, { on := 7, ground := Ground.phase }], guard := none }) (v := ?_) rfl (by as_aux_lemma => kernel_rfl) (by as_aux_lemma => kernel_rfl) (by as_aux_lemma => kernel_rfl) (fun _ _ _ h => h) (Or.inl ⟨by rfl, ?_⟩) (by assumption) ?_
  rotate_left
  · intro wq hSw
    go_simp
    try with_reducible rfl
  simp only [Act.put, List.setIfInBounds_toArray, List.set_cons_zero, List.set_cons_succ]
  refine wpAnyH_done (by as_aux_lemma => kernel_rfl) ?_ _
  go_wp2_with fail
  go_ret
  rw [← hW] at HO HBY
  refine ⟨_, _, rfl, ?_, Below.step HBW.out HBY.out⟩
  refine ⟨HO.out.1, ?_⟩
  rcases HO.out.2 with h0 | ⟨g', cap, cur, hv, hg, hgh, hr⟩
  · exact .inl h0
  · exact .inr ⟨g', cap, cur, hv, by have := HSW.out; omega, hgh, hr⟩
set_option maxRecDepth 100000 in
set_option maxHeartbeats 8000000 in
theorem cut_top (base n c i g : Nat) (l : List Evn) (w : World) (h : w.ownsRow base 38 12 (.slice (some ⟨g, 0, none⟩) n c) n (nv l)) (hn : n = l.length) (hij : i ≤ n) (hl : n ≤ 60) (hj0 : 0 < n) (hcj : n < c) : Calls Try.prog 28 #[.slice (some ⟨g, 0, none⟩) n c, .int .i64 (i : Int), .int .i64 (n : Int)] w fun e w' => ∃ A' c', e = .returned (.slice A' (l.take i ++ l.drop n).length c') ∧ w'.ownsRow w.heap.size 38 12 (.slice A' (l.take i ++ l.drop n).length c') (l.take i ++ l.drop n).length (nv (l.take i ++ l.drop n)) ∧ Below w.heap.size w w' := by
  have hR := Reads.of_own h
  obtain ⟨hnc, hcm⟩ : n ≤ c ∧ c ≤ maxLen := by
    rcases h.2 with ⟨h0, _⟩ | ⟨g', cap, cur, hv, _, _, h1, h2, _⟩
    · cases h0
    · injection hv with e1 e2 e3
      try subst e3
      exact ⟨h1, h2⟩
  have hcm2 : (c : Int) ≤ 9223372036854775807 := by unfold maxLen at hcm; omega
  have hj1 : n ≤ n := by omega
  have li : (l.take i).length = i := by rw [List.length_take]; omega
  have lj : (l.drop n).length = 0 := by rw [List.length_drop]; omega
  have hR1 : Reads w w.heap.size 12 (some ⟨g, 0, none⟩) (l.take i).length (nv (l.take i)) := by
    rw [li, nv_take]
    exact hR.takeE (by omega)
  have hR2 : Reads w w.heap.size 12 (some ⟨g, n * 12, none⟩) (l.drop n).length (nv (l.drop n)) := by
    rw [lj]
    have hz : l.drop n = [] := List.drop_eq_nil_of_le (by omega)
    rw [hz]
    exact Reads.none_
  obtain ⟨W, hW⟩ : ∃ W, W = (w.alloc (.cells (List.toArray [.slice (some ⟨g, 0, none⟩) (l.take i).length c, .slice (some ⟨g, n * 12, none⟩) (l.drop n).length (c - n)]) 24)).drew := ⟨_, rfl⟩
  have bW : Bl w.heap.size [.slice (some ⟨g, 0, none⟩) (l.take i).length c, .slice (some ⟨g, n * 12, none⟩) (l.drop n).length (c - n)] W := by
    rw [hW]
    exact Bl.new w [.slice (some ⟨g, 0, none⟩) (l.take i).length c, .slice (some ⟨g, n * 12, none⟩) (l.drop n).length (c - n)] 24
  have hbW : Below w.heap.size w W := by rw [hW]; exact Below.drew ((Below.refl _ _).alloc (Nat.le_refl _) _)
  have hszW : W.heap.size = w.heap.size + 1 := by rw [hW]; exact World.size_alloc w _
  have HC := Lib.hid (concat_is w.heap.size (some ⟨g, 0, none⟩) (some ⟨g, n * 12, none⟩) (l.take i) (l.drop n) c (c - n) W (bW.cell 0 _ rfl) (bW.cell 1 _ rfl) (by omega) ((hR1.below hbW).more (by omega)) ((hR2.below hbW).more (by omega)) (by rw [li, lj]; omega))
  have HBW := Lib.hid hbW
  have HSW := Lib.hid hszW
  rw [hW, li, lj] at HC
  rw [li, lj] at hW
  have i0 : (0 : Int) ≤ (i : Int) := by omega
  have i1 : (i : Int) ≤ (c : Int) := by omega
  have i2 : (i : Int) ≤ (n : Int) := by omega
  have j0 : (0 : Int) ≤ (n : Int) := by omega
  have j1 : (n : Int) ≤ (n : Int) := by omega
  have j2 : (n : Int) ≤ (c : Int) := by omega
  have j3 : (n : Int) ≤ (c : Int) := by omega
  have jc : ¬ (c = n) := by omega
  have jc2 : ¬ ((c : Int) = (n : Int)) := by omega
  clear hR h hR1 hR2 bW hbW hszW hcm hn hij hl li lj
  generalize l.take i ++ l.drop n = LL at *
  go_enter Try.func28, Try.ntmps28
  go_wp2_with fail
  refine wp_region_held_drew (S := fun w' => True) (by kernel_rfl) trivial (fun hHeld => ?_)
  refine wpAnyH_take (i := 0) (oi := { dst := some 7, op := Op.move (Operand.tmp 0), type := 24, pos := "shrink.go:41", after := #[], guard := none }) (v := ?_) rfl (by as_aux_lemma => kernel_rfl) (by as_aux_lemma => kernel_rfl) (by as_aux_lemma => kernel_rfl) (fun _ _ _ h => h) (Or.inl ⟨by rfl, ?_⟩) (by assumption) ?_
  rotate_left
  · intro wq hSw
    go_simp
    try with_reducible rfl
  simp only [Act.put, List.setIfInBounds_toArray, List.set_cons_zero, List.set_cons_succ]
  refine wpAnyH_take (i := 1) (oi := { dst := some 8, op := Op.move (Operand.tmp 1), type := 3, pos := "shrink.go:41", after := #[], guard := none }) (v := ?_) rfl (by as_aux_lemma => kernel_rfl) (by as_aux_lemma => kernel_rfl) (by as_aux_lemma => kernel_rfl) (fun _ _ _ h => h) (Or.inl ⟨by rfl, ?_⟩) (by assumption) ?_
  rotate_left
  · intro wq hSw
    go_simp
    try with_reducible rfl
  simp only [Act.put, List.setIfInBounds_toArray, List.set_cons_zero, List.set_cons_succ]
  refine wpAnyH_take (i := 2) (oi := { dst := some 9, op := Op.slice 24 (Operand.tmp 7) none (some (Operand.tmp 8)) none, type := 24, pos := "shrink.go:41", after := #[{ on := 0, ground := Ground.data }, { on := 1, ground := Ground.data }], guard := none }) (v := .slice (some ⟨g, 0, none⟩) i c) rfl (by as_aux_lemma => kernel_rfl) (by as_aux_lemma => kernel_rfl) (by as_aux_lemma => kernel_rfl) (fun _ _ _ h => h) (Or.inl ⟨by rfl, ?_⟩) (by assumption) ?_
  · intro wq hSw
    go_simp
    try with_reducible rfl
  simp only [Act.put, List.setIfInBounds_toArray, List.set_cons_zero, List.set_cons_succ]
  refine wpAnyH_take (i := 3) (oi := { dst := some 10, op := Op.move (Operand.tmp 0), type := 24, pos := "shrink.go:41", after := #[], guard := none }) (v := ?_) rfl (by as_aux_lemma => kernel_rfl) (by as_aux_lemma => kernel_rfl) (by as_aux_lemma => kernel_rfl) (fun _ _ _ h => h) (Or.inl ⟨by rfl, ?_⟩) (by assumption) ?_
  rotate_left
  · intro wq hSw
    go_simp
    try with_reducible rfl
  simp only [Act.put, List.setIfInBounds_toArray, List.set_cons_zero, List.set_cons_succ]
  refine wpAnyH_take (i := 4) (oi := { dst := some 11, op := Op.move (Operand.tmp 2), type := 3, pos := "shrink.go:41", after := #[], guard := none }) (v := ?_) rfl (by as_aux_lemma => kernel_rfl) (by as_aux_lemma => kernel_rfl) (by as_aux_lemma => kernel_rfl) (fun _ _ _ h => h) (Or.inl ⟨by rfl, ?_⟩) (by assumption) ?_
  rotate_left
  · intro wq hSw
    go_simp
    try with_reducible rfl
  simp only [Act.put, List.setIfInBounds_toArray, List.set_cons_zero, List.set_cons_succ]
  refine wpAnyH_take (i := 5) (oi := { dst := some 12, op := Op.slice 24 (Operand.tmp 10) (some (Operand.tmp 11)) none none, type := 24, pos := "shrink.go:41", after := #[{ on := 3, ground := Ground.data }, { on := 4, ground := Ground.data }], guard := none }) (v := .slice (some ⟨g, n * 12, none⟩) 0 (c - n)) rfl (by as_aux_lemma => kernel_rfl) (by as_aux_lemma => kernel_rfl) (by as_aux_lemma => kernel_rfl) (fun _ _ _ h => h) (Or.inl ⟨by rfl, ?_⟩) (by assumption) ?_
  · intro wq hSw
    go_simp
    try with_reducible rfl
  simp only [Act.put, List.setIfInBounds_toArray, List.set_cons_zero, List.set_cons_succ]
  refine wpAnyH_ready (rs := [6]) (by as_aux_lemma => kernel_rfl) (by simp) ?_
  refine AllReadyH.cons (o := { dst := some 13, op := Op.buildSlice 54 2 #[(0, Operand.tmp 9), (1, Operand.tmp 12)], type := 54, pos := "shrink.go:41", after := #[{ on := 2, ground := Ground.data }, { on := 5, ground := Ground.data }], guard := none }) rfl (fun K hK => ?_) AllReadyH.nil
  go_simp
  refine hK.out _ _ trivial (fun hHeld => ?_)
  clear hK K
  try simp only [Act.put, List.setIfInBounds_toArray, List.set_cons_zero, List.set_cons_succ]
  refine wpAnyH_ready (rs := [7]) (by as_aux_lemma => kernel_rfl) (by simp) ?_
  refine AllReadyH.cons (o := { dst := some 14, op := Op.call { callee := Callee.value (Operand.func 29), args := #[Operand.tmp 13], argTypes := #[54] }, type := 24, pos := "shrink.go:41", after := #[{ on := 6, ground := Ground.data }], guard := none }) rfl (fun K hK => ?_) AllReadyH.nil
  go_simp
  go_at_call 29
  refine HC.out.mono ?_
  rintro ey wy ⟨A', c', rfl, ho, hby⟩
  have HO := Lib.hid ho
  have HBY := Lib.hid hby
  refine hK.out _ _ trivial (fun hHeld => ?_)
  clear hK K ho hby
  try simp only [Act.put, List.setIfInBounds_toArray, List.set_cons_zero, List.set_cons_succ]
  refine wpAnyH_take (i := 8) (oi := { dst := some 6, op := Op.assign (Operand.tmp 14), type := 24, pos := "shrink.go:41", after := #[{ on := 7, ground := Ground.data }, { on := 7, ground := Ground.chain }, { on := 0, ground := Ground.phase }, { on := 1, ground := Ground.phase }, { on := 2, ground := Ground.phase }, { on := 3, ground := Ground.phase }, { on := 4, ground := Ground.phase }, { on := 5, ground := Ground.phase }, { on := 6, ground := Ground.phase }, { on := 7, ground := Ground.phase }], guard := none }) (v := ?_) rfl (by as_aux_lemma => kernel_rfl) (by as_aux_lemma => kernel_rfl) (by as_aux_lemma => kernel_rfl) (fun _ _ _ h => h) (Or.inl ⟨by rfl, ?_⟩) (by assumption) ?_
  rotate_left
  · intro wq hSw
    go_simp
    try with_reducible rfl
  simp only [Act.put, List.setIfInBounds_toArray, List.set_cons_zero, List.set_cons_succ]
  refine wpAnyH_done (by as_aux_lemma => kernel_rfl) ?_ _
  go_wp2_with fail
  go_ret
  rw [← hW] at HO HBY
  refine ⟨_, _, rfl, ?_, Below.step HBW.out HBY.out⟩
  refine ⟨HO.out.1, ?_⟩
  rcases HO.out.2 with h0 | ⟨g', cap, cur, hv, hg, hgh, hr⟩
  · exact .inl h0
  · exact .inr ⟨g', cap, cur, hv, by have := HSW.out; omega, hgh, hr⟩
theorem cut_is (base : Nat) (A : Option Addr) (n c i j : Nat) (l : List Evn) (w : World) (h : w.ownsRow base 38 12 (.slice A n c) n (nv l)) (hn : n = l.length) (hij : i ≤ j) (hj : j ≤ n) (hj0 : 0 < j) (hl : n ≤ 60) : Calls Try.prog 28 #[.slice A n c, .int .i64 (i : Int), .int .i64 (j : Int)] w fun e w' => ∃ A' c', e = .returned (.slice A' (l.take i ++ l.drop j).length c') ∧ w'.ownsRow w.heap.size 38 12 (.slice A' (l.take i ++ l.drop j).length c') (l.take i ++ l.drop j).length (nv (l.take i ++ l.drop j)) ∧ Below w.heap.size w w' := by
  obtain ⟨g, rfl, hnc⟩ : ∃ g, A = some ⟨g, 0, none⟩ ∧ n ≤ c := by
    rcases h.2 with ⟨h0, _⟩ | ⟨g', cap, cur, hv, _, _, h1, h2, _⟩
    · injection h0 with e1 e2 e3
      omega
    · injection hv with e1 e2 e3
      exact ⟨g', e1, by omega⟩
  by_cases h1 : j < n
  · exact cut_lt base n c i j g l w h hn hij hl h1 hj0
  · have h2 : j = n := by omega
    by_cases h3 : c = j
    · subst h2
      subst h3
      exact cut_all base _ i g l w h hn hij hl hj0
    · subst h2
      exact cut_top base _ c i g l w h hn hij hl hj0 (by omega)
end Go.Proofs.Ytfdjbhlpkfbgnaa

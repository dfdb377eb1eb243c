/-
  The law LineParses, walked.
-/
import Derived.Test.YtnppopeoloigeaaDoorRows
import Derived.Test.YtnppopeoloigeaaDoorKit
import Derived.Test.YtnppopeoloigeaaDoorApp
import Derived.Test.YtnppopeoloigeaaDoorQuiet
import Derived.WalkKit
import Derived.ProofKit
import Derived.OpenShut
import Derived.ShutString
import Derived.Below
import Derived.Outline
import Derived.WalkLawsBesides
import Derived.WalkSpells
import Derived.Handy
import Derived.Deep.QuietTactic
import Derived.BigQuiet
import Derived.RegionTactic
import Derived.ChangeAlike
import Derived.Lib.Hide
import Derived.Laws.Rows
import Derived.Laws.Tables
import Derived.Laws.CopyOwn
import Derived.Laws.MakeOwn
import Derived.Laws.Entries
import Derived.Laws.OwnMore
import Derived.Deep.WholeRow
import Derived.Deep.LoopGhost
import Derived.Deep.AppendLies
import Derived.Deep.Draws
import Derived.Maps.AppendAt
import Derived.OwnWalk
import Derived.Deep.RegionHeld3
import Derived.Deep.Cut
import Derived.Deep.CutRange
import Derived.Deep.DeepCutAuto
import Derived.Deep.CutBlock
import Derived.Lib.SliceRun
import Derived.IntWalk
import Derived.Laws.Strings
import Derived.Lib.Bytealg
import Derived.Lib.Strings
import Derived.Laws.Externs
import Derived.Test.YtnppopeoloigeaaDoorLnV
import Derived.Test.YtnppopeoloigeaaDoorLnW
import Derived.Test.YtnppopeoloigeaaDoorLnX
import Derived.Test.YtnppopeoloigeaaDoorLnI
import Derived.Test.YtnppopeoloigeaaDoorLnN
import Derived.Deep.RegionHeld3
namespace Go.Proofs.YtnppopeoloigeaaDoor
open Go.ChangeShapes Go.WideShapes Go.ChangeAt Go.RowKit
set_option maxRecDepth 100000 in
set_option maxHeartbeats 8000000 in
theorem way_long (s t : ByteArray) (w : World) (hw : Wd w) (h : 1000 < s.size ∨ 1000 < t.size) : Calls Tryd.prog 3 #[.string s, .string t] w fun e w' => e = .returned (.bool true) ∧ Below w.heap.size w w' := by
  have HA := Lib.hid (fun W hW => awake_is W hW)
  have HW := Lib.hid hw
  clear hw
  by_cases h1 : 1000 < s.size
  · have g1 : (1000 : Int) < (s.size : Int) := by omega
    clear h h1
    go_enter Tryd.func3, Tryd.ntmps3
    go_wp2_with fail
    refine (HA.out _ HW.out).mono ?_
    rintro e w' ⟨rfl, hb⟩
    go_wp2_with fail
    go_ret
    exact ⟨rfl, hb⟩
  · have g0 : decide ((1000 : Int) < (s.size : Int)) = false := decide_eq_false (by omega)
    have g1 : (1000 : Int) < (t.size : Int) := by omega
    clear h h1
    go_enter Tryd.func3, Tryd.ntmps3
    go_wp2_with fail
    refine (HA.out _ HW.out).mono ?_
    rintro e w' ⟨rfl, hb⟩
    go_wp2_with fail
    go_ret
    exact ⟨rfl, hb⟩
set_option maxRecDepth 100000 in
set_option maxHeartbeats 8000000 in
theorem way_er (s t : ByteArray) (w : World) (hw : Wd w) (hs : s.size ≤ 1000) (ht : t.size ≤ 1000) (c : Nat) (p : Int) (hc1 : 1 ≤ c) (hc2 : c ≤ 29) (h1 : lp s = .er (c : Int) p) : Calls Tryd.prog 3 #[.string s, .string t] w fun e w' => e = .returned (.bool true) ∧ Below w.heap.size w w' := by
  have HA := Lib.hid (fun W hW => awake_is W hW)
  have HW := Lib.hid hw
  have HP1 := Lib.hid (fun W hv => parse_is s hs W hv)
  have HP2 := Lib.hid (fun W => rparse_is s hs W)
  have HN := Lib.hid (fun W => num_is t ht W)
  have HD := Lib.hid (fun W => digits_is t ht W)
  have HF := Lib.hid (fun W => from_is 0 0 0 0 0 0 0 0 0 W)
  have g0 : decide ((1000 : Int) < (s.size : Int)) = false := decide_eq_false (by omega)
  have g1 : decide ((1000 : Int) < (t.size : Int)) = false := decide_eq_false (by omega)
  have HNE := Lib.hid (fun W => neqRef 0 0 0 0 0 0 0 0 0 W)
  rw [h1] at HP1 HP2
  have HC := Lib.hid (And.intro hc1 hc2)
  have c0 : ((c : Int) == 0) = false := beq_eq_false_iff_ne.2 (by omega)
  clear h1 hs ht hw hc1 hc2
  go_enter Tryd.func3, Tryd.ntmps3
  go_wp2_with fail
  refine (HP1.out _ HW.out.vb).mono ?_
  rintro e1 w1 ⟨v1, rfl, hE1, hb1⟩
  have ga : Below w1.heap.size w1 (w1.alloc (.cells (List.toArray [.int .i64 0, .int .i64 0, .int .i64 0, .int .i64 0, .int .i64 0, .int .i64 0, .int .i64 0, .int .i64 0, .int .i64 0]) 26)) := by go_grown
  have ba := Bl.new w1 [.int .i64 0, .int .i64 0, .int .i64 0, .int .i64 0, .int .i64 0, .int .i64 0, .int .i64 0, .int .i64 0, .int .i64 0] 26
  have HB1 := Lib.hid (And.intro (Below.step hb1 ga) ba)
  have HE1 := Lib.hid (hE1.below ga)
  clear hE1
  clear hb1 ga ba HP1
  go_wp2_with fail
  refine (HP2.out _).mono ?_
  rintro e2 w2 ⟨rfl, hb2⟩
  have gb : Below w2.heap.size w2 (w2.alloc (.cells (List.toArray [.int .i64 0, .int .i64 0, .int .i64 0, .int .i64 0, .int .i64 0, .int .i64 0, .int .i64 0, .int .i64 0, .int .i64 0]) 31)) := by go_grown
  have bb := Bl.new w2 [.int .i64 0, .int .i64 0, .int .i64 0, .int .i64 0, .int .i64 0, .int .i64 0, .int .i64 0, .int .i64 0, .int .i64 0] 31
  have hg2 := Below.step hb2 gb
  have HB2 := Lib.hid (And.intro (Below.step HB1.out.1 hg2) (And.intro (HB1.out.2.below hg2) bb))
  have HE2 := Lib.hid (HE1.out.below hg2)
  clear hb2 gb bb hg2 HP2
  go_wp2_with fail
  have gd : Below (w2.alloc (.cells (List.toArray [.int .i64 0, .int .i64 0, .int .i64 0, .int .i64 0, .int .i64 0, .int .i64 0, .int .i64 0, .int .i64 0, .int .i64 0]) 31)).heap.size (w2.alloc (.cells (List.toArray [.int .i64 0, .int .i64 0, .int .i64 0, .int .i64 0, .int .i64 0, .int .i64 0, .int .i64 0, .int .i64 0, .int .i64 0]) 31)) (w2.alloc (.cells (List.toArray [.int .i64 0, .int .i64 0, .int .i64 0, .int .i64 0, .int .i64 0, .int .i64 0, .int .i64 0, .int .i64 0, .int .i64 0]) 31)).drew := (Below.refl _ _).drew
  have hd : (Below w.heap.size w (w2.alloc (.cells (List.toArray [.int .i64 0, .int .i64 0, .int .i64 0, .int .i64 0, .int .i64 0, .int .i64 0, .int .i64 0, .int .i64 0, .int .i64 0]) 31)).drew ∧ Bl w1.heap.size [.int .i64 0, .int .i64 0, .int .i64 0, .int .i64 0, .int .i64 0, .int .i64 0, .int .i64 0, .int .i64 0, .int .i64 0] (w2.alloc (.cells (List.toArray [.int .i64 0, .int .i64 0, .int .i64 0, .int .i64 0, .int .i64 0, .int .i64 0, .int .i64 0, .int .i64 0, .int .i64 0]) 31)).drew ∧ Bl w2.heap.size [.int .i64 0, .int .i64 0, .int .i64 0, .int .i64 0, .int .i64 0, .int .i64 0, .int .i64 0, .int .i64 0, .int .i64 0] (w2.alloc (.cells (List.toArray [.int .i64 0, .int .i64 0, .int .i64 0, .int .i64 0, .int .i64 0, .int .i64 0, .int .i64 0, .int .i64 0, .int .i64 0]) 31)).drew ∧ Er (w2.alloc (.cells (List.toArray [.int .i64 0, .int .i64 0, .int .i64 0, .int .i64 0, .int .i64 0, .int .i64 0, .int .i64 0, .int .i64 0, .int .i64 0]) 31)).drew (c : Int) p v1) := ⟨HB2.out.1.drew, HB2.out.2.1.below gd, HB2.out.2.2.below gd, HE2.out.below gd⟩
  clear gd
  refine wp_region_held_drew (S := fun w' => Below w.heap.size w w' ∧ Bl w1.heap.size [.int .i64 0, .int .i64 0, .int .i64 0, .int .i64 0, .int .i64 0, .int .i64 0, .int .i64 0, .int .i64 0, .int .i64 0] w' ∧ Bl w2.heap.size [.int .i64 0, .int .i64 0, .int .i64 0, .int .i64 0, .int .i64 0, .int .i64 0, .int .i64 0, .int .i64 0, .int .i64 0] w' ∧ Er w' (c : Int) p v1) (by kernel_rfl) hd (fun hHeld => ?_)
  refine wpAnyH_take (i := 0) (oi := { dst := some 34, op := Op.move (Operand.tmp 6), type := 28, pos := "law.go:35", after := #[], guard := none }) (v := v1) rfl (by as_aux_lemma => kernel_rfl) (by as_aux_lemma => kernel_rfl) (by as_aux_lemma => kernel_rfl) (fun _ _ _ h => h) (Or.inl ⟨by rfl, ?_⟩) (by assumption) ?_
  · intro wq hSw
    go_simp
    try with_reducible rfl
  simp only [Act.put, List.setIfInBounds_toArray, List.set_cons_zero, List.set_cons_succ]
  refine wpAnyH_take (i := 2) (oi := { dst := some 36, op := Op.move (Operand.tmp 8), type := 3, pos := "law.go:35", after := #[], guard := none }) (v := .int .i64 (c : Int)) rfl (by as_aux_lemma => kernel_rfl) (by as_aux_lemma => kernel_rfl) (by as_aux_lemma => kernel_rfl) (fun _ _ _ h => h) (Or.inl ⟨by rfl, ?_⟩) (by assumption) ?_
  · intro wq hSw
    go_simp
    try with_reducible rfl
  simp only [Act.put, List.setIfInBounds_toArray, List.set_cons_zero, List.set_cons_succ]
  refine wpAnyH_ready (rs := [1]) (by as_aux_lemma => kernel_rfl) (by simp) ?_
  refine AllReadyH.cons (o := { dst := some 35, op := Op.call { callee := Callee.value (Operand.func 10), args := #[Operand.tmp 34], argTypes := #[28] }, type := 3, pos := "law.go:35", after := #[{ on := 0, ground := Ground.data }], guard := none }) rfl (fun K2 hK => ?_) AllReadyH.nil
  go_simp
  go_at_call 10
  refine (num_ch [.pl p] c HC.out.1 HC.out.2 _ _ hd.2.2.2.chain).mono ?_
  rintro e3 w3 ⟨rfl, hb3⟩
  have hd3 : (Below w.heap.size w w3 ∧ Bl w1.heap.size [.int .i64 0, .int .i64 0, .int .i64 0, .int .i64 0, .int .i64 0, .int .i64 0, .int .i64 0, .int .i64 0, .int .i64 0] w3 ∧ Bl w2.heap.size [.int .i64 0, .int .i64 0, .int .i64 0, .int .i64 0, .int .i64 0, .int .i64 0, .int .i64 0, .int .i64 0, .int .i64 0] w3 ∧ Er w3 (c : Int) p v1) := ⟨Below.step hd.1 hb3, hd.2.1.below hb3, hd.2.2.1.below hb3, hd.2.2.2.below hb3⟩
  clear hd hb3
  have hd := hd3
  clear hd3
  refine hK.out _ _ hd (fun hHeld => ?_)
  clear hK K2
  try simp only [Act.put, List.setIfInBounds_toArray, List.set_cons_zero, List.set_cons_succ]
  refine wpAnyH_take (i := 3) (oi := { dst := some 37, op := Op.binOp BinOp.neq 3 (Operand.tmp 35) (Operand.tmp 36) 3, type := 4, pos := "law.go:35", after := #[{ on := 1, ground := Ground.data }, { on := 2, ground := Ground.data }], guard := none }) (v := .bool false) rfl (by as_aux_lemma => kernel_rfl) (by as_aux_lemma => kernel_rfl) (by as_aux_lemma => kernel_rfl) (fun _ _ _ h => h) (Or.inl ⟨by rfl, ?_⟩) (by assumption) ?_
  · intro wq hSw
    go_simp
    try with_reducible rfl
  simp only [Act.put, List.setIfInBounds_toArray, List.set_cons_zero, List.set_cons_succ]
  refine wpAnyH_take (i := 4) (oi := { dst := some 38, op := Op.move (Operand.tmp 37), type := 4, pos := "law.go:35", after := #[{ on := 3, ground := Ground.data }, { on := 1, ground := Ground.chain }], guard := none }) (v := .bool false) rfl (by as_aux_lemma => kernel_rfl) (by as_aux_lemma => kernel_rfl) (by as_aux_lemma => kernel_rfl) (fun _ _ _ h => h) (Or.inl ⟨by rfl, ?_⟩) (by assumption) ?_
  · intro wq hSw
    go_simp
    try with_reducible rfl
  simp only [Act.put, List.setIfInBounds_toArray, List.set_cons_zero, List.set_cons_succ]
  refine wpAnyH_take (i := 5) (oi := { dst := some 39, op := Op.load 26 (Operand.tmp 5), type := 26, pos := "law.go:35", after := #[{ on := 4, ground := Ground.guard }], guard := some (4, false) }) (v := .agg (List.toArray [.int .i64 0, .int .i64 0, .int .i64 0, .int .i64 0, .int .i64 0, .int .i64 0, .int .i64 0, .int .i64 0, .int .i64 0])) rfl (by as_aux_lemma => kernel_rfl) (by as_aux_lemma => kernel_rfl) (by as_aux_lemma => kernel_rfl) (fun _ _ _ h => h) (Or.inl ⟨by rfl, ?_⟩) (by assumption) ?_
  · intro wq hSw
    obtain ⟨s1, s2, s3, s4⟩ := hSw
    have x0 := s2.cell 0 _ rfl
    have x1 := s2.cell 1 _ rfl
    have x2 := s2.cell 2 _ rfl
    have x3 := s2.cell 3 _ rfl
    have x4 := s2.cell 4 _ rfl
    have x5 := s2.cell 5 _ rfl
    have x6 := s2.cell 6 _ rfl
    have x7 := s2.cell 7 _ rfl
    have x8 := s2.cell 8 _ rfl
    go_simp
    try with_reducible rfl
  simp only [Act.put, List.setIfInBounds_toArray, List.set_cons_zero, List.set_cons_succ]
  refine wpAnyH_take (i := 7) (oi := { dst := some 41, op := Op.load 31 (Operand.tmp 7), type := 31, pos := "law.go:35", after := #[{ on := 4, ground := Ground.guard }], guard := some (4, false) }) (v := .agg (List.toArray [.int .i64 0, .int .i64 0, .int .i64 0, .int .i64 0, .int .i64 0, .int .i64 0, .int .i64 0, .int .i64 0, .int .i64 0])) rfl (by as_aux_lemma => kernel_rfl) (by as_aux_lemma => kernel_rfl) (by as_aux_lemma => kernel_rfl) (fun _ _ _ h => h) (Or.inl ⟨by rfl, ?_⟩) (by assumption) ?_
  · intro wq hSw
    obtain ⟨s1, s2, s3, s4⟩ := hSw
    have x0 := s3.cell 0 _ rfl
    have x1 := s3.cell 1 _ rfl
    have x2 := s3.cell 2 _ rfl
    have x3 := s3.cell 3 _ rfl
    have x4 := s3.cell 4 _ rfl
    have x5 := s3.cell 5 _ rfl
    have x6 := s3.cell 6 _ rfl
    have x7 := s3.cell 7 _ rfl
    have x8 := s3.cell 8 _ rfl
    go_simp
    try with_reducible rfl
  simp only [Act.put, List.setIfInBounds_toArray, List.set_cons_zero, List.set_cons_succ]
  refine wpAnyH_ready (rs := [6]) (by as_aux_lemma => kernel_rfl) (by simp) ?_
  refine AllReadyH.cons (o := { dst := some 40, op := Op.call { callee := Callee.value (Operand.func 11), args := #[Operand.tmp 39], argTypes := #[26] }, type := 31, pos := "law.go:35", after := #[{ on := 5, ground := Ground.data }, { on := 4, ground := Ground.chain }, { on := 4, ground := Ground.guard }], guard := some (4, false) }) rfl (fun K2 hK => ?_) AllReadyH.nil
  go_simp
  go_at_call 11
  refine (HF.out _).mono ?_
  rintro e4 w4 ⟨rfl, hb4⟩
  have hd4 : (Below w.heap.size w w4 ∧ Bl w1.heap.size [.int .i64 0, .int .i64 0, .int .i64 0, .int .i64 0, .int .i64 0, .int .i64 0, .int .i64 0, .int .i64 0, .int .i64 0] w4 ∧ Bl w2.heap.size [.int .i64 0, .int .i64 0, .int .i64 0, .int .i64 0, .int .i64 0, .int .i64 0, .int .i64 0, .int .i64 0, .int .i64 0] w4 ∧ Er w4 (c : Int) p v1) := ⟨Below.step hd.1 hb4, hd.2.1.below hb4, hd.2.2.1.below hb4, hd.2.2.2.below hb4⟩
  clear hd hb4
  have hd := hd4
  clear hd4
  refine hK.out _ _ hd (fun hHeld => ?_)
  clear hK K2
  try simp only [Act.put, List.setIfInBounds_toArray, List.set_cons_zero, List.set_cons_succ]
  refine wpAnyH_take (i := 8) (oi := { dst := some 42, op := Op.binOp BinOp.neq 31 (Operand.tmp 40) (Operand.tmp 41) 31, type := 4, pos := "law.go:35", after := #[{ on := 6, ground := Ground.data }, { on := 7, ground := Ground.data }, { on := 4, ground := Ground.guard }], guard := some (4, false) }) (v := .bool false) rfl (by as_aux_lemma => kernel_rfl) (by as_aux_lemma => kernel_rfl) (by as_aux_lemma => kernel_rfl) (fun _ _ _ h => h) (Or.inl ⟨by rfl, ?_⟩) (by assumption) ?_
  · intro wq hSw
    have hne := HNE.out wq
    go_simp
    try with_reducible rfl
  simp only [Act.put, List.setIfInBounds_toArray, List.set_cons_zero, List.set_cons_succ]
  refine wpAnyH_take (i := 9) (oi := { dst := some 43, op := Op.pick (Operand.tmp 38) (Operand.const (Value.bool true)) (Operand.tmp 42), type := 4, pos := "law.go:35", after := #[{ on := 4, ground := Ground.data }, { on := 8, ground := Ground.data }], guard := none }) (v := .bool false) rfl (by as_aux_lemma => kernel_rfl) (by as_aux_lemma => kernel_rfl) (by as_aux_lemma => kernel_rfl) (fun _ _ _ h => h) (Or.inl ⟨by rfl, ?_⟩) (by assumption) ?_
  · intro wq hSw
    go_simp
    try with_reducible rfl
  simp only [Act.put, List.setIfInBounds_toArray, List.set_cons_zero, List.set_cons_succ]
  refine wpAnyH_done (by as_aux_lemma => kernel_rfl) ?_ _
  go_wp2_with fail
  have hwd := HW.out.below hd.1
  refine (place_some p [.pl p] (c : Int) _ _ hd.2.2.2.chain hwd.hg hwd.hgl rfl).mono ?_
  rintro e5 w5 ⟨rfl, hb5⟩
  have hB5 := Below.step hd.1 hb5
  clear hd hb5 hwd
  go_wp2_with fail
  refine (HN.out _).mono ?_
  rintro e6 w6 ⟨x6, rfl, hx6, hb6⟩
  have hB6 := Below.step hB5 hb6
  clear hB5 hb6 hx6
  go_wp2_with fail
  refine (HA.out _ (HW.out.below hB6)).mono ?_
  rintro e7 w7 ⟨rfl, hb7⟩
  have hB7 := Below.step hB6 hb7
  clear hB6 hb7
  go_wp2_with fail
  refine (HD.out _).mono ?_
  rintro e8 w8 ⟨rfl, hw8⟩
  subst hw8
  go_wp2_with fail
  go_ret
  exact ⟨rfl, hB7⟩
set_option maxRecDepth 100000 in
set_option maxHeartbeats 8000000 in
theorem way_ok (s t : ByteArray) (w : World) (hw : Wd w) (hs : s.size ≤ 1000) (ht : t.size ≤ 1000) (c0 c1 c2 c3 c4 c5 c6 c7 c8 : Int) (h1 : lp s = .ok [c0, c1, c2, c3, c4, c5, c6, c7, c8]) : Calls Tryd.prog 3 #[.string s, .string t] w fun e w' => e = .returned (.bool true) ∧ Below w.heap.size w w' := by
  have HA := Lib.hid (fun W hW => awake_is W hW)
  have HW := Lib.hid hw
  have HP1 := Lib.hid (fun W hv => parse_is s hs W hv)
  have HP2 := Lib.hid (fun W => rparse_is s hs W)
  have HN := Lib.hid (fun W => num_is t ht W)
  have HD := Lib.hid (fun W => digits_is t ht W)
  have HF := Lib.hid (fun W => from_is c0 c1 c2 c3 c4 c5 c6 c7 c8 W)
  have g0 : decide ((1000 : Int) < (s.size : Int)) = false := decide_eq_false (by omega)
  have g1 : decide ((1000 : Int) < (t.size : Int)) = false := decide_eq_false (by omega)
  have HNE := Lib.hid (fun W => neqRef c0 c1 c2 c3 c4 c5 c6 c7 c8 W)
  rw [h1] at HP1 HP2
  clear h1 hs ht hw
  go_enter Tryd.func3, Tryd.ntmps3
  go_wp2_with fail
  refine (HP1.out _ HW.out.vb).mono ?_
  rintro e1 w1 ⟨rfl, hb1⟩
  have ga : Below w1.heap.size w1 (w1.alloc (.cells (List.toArray [.int .i64 c0, .int .i64 c1, .int .i64 c2, .int .i64 c3, .int .i64 c4, .int .i64 c5, .int .i64 c6, .int .i64 c7, .int .i64 c8]) 26)) := by go_grown
  have ba := Bl.new w1 [.int .i64 c0, .int .i64 c1, .int .i64 c2, .int .i64 c3, .int .i64 c4, .int .i64 c5, .int .i64 c6, .int .i64 c7, .int .i64 c8] 26
  have HB1 := Lib.hid (And.intro (Below.step hb1 ga) ba)
  clear hb1 ga ba HP1
  go_wp2_with fail
  refine (HP2.out _).mono ?_
  rintro e2 w2 ⟨rfl, hb2⟩
  have gb : Below w2.heap.size w2 (w2.alloc (.cells (List.toArray [.int .i64 c0, .int .i64 c1, .int .i64 c2, .int .i64 c3, .int .i64 c4, .int .i64 c5, .int .i64 c6, .int .i64 c7, .int .i64 c8]) 31)) := by go_grown
  have bb := Bl.new w2 [.int .i64 c0, .int .i64 c1, .int .i64 c2, .int .i64 c3, .int .i64 c4, .int .i64 c5, .int .i64 c6, .int .i64 c7, .int .i64 c8] 31
  have hg2 := Below.step hb2 gb
  have HB2 := Lib.hid (And.intro (Below.step HB1.out.1 hg2) (And.intro (HB1.out.2.below hg2) bb))
  clear hb2 gb bb hg2 HP2
  go_wp2_with fail
  have gd : Below (w2.alloc (.cells (List.toArray [.int .i64 c0, .int .i64 c1, .int .i64 c2, .int .i64 c3, .int .i64 c4, .int .i64 c5, .int .i64 c6, .int .i64 c7, .int .i64 c8]) 31)).heap.size (w2.alloc (.cells (List.toArray [.int .i64 c0, .int .i64 c1, .int .i64 c2, .int .i64 c3, .int .i64 c4, .int .i64 c5, .int .i64 c6, .int .i64 c7, .int .i64 c8]) 31)) (w2.alloc (.cells (List.toArray [.int .i64 c0, .int .i64 c1, .int .i64 c2, .int .i64 c3, .int .i64 c4, .int .i64 c5, .int .i64 c6, .int .i64 c7, .int .i64 c8]) 31)).drew := (Below.refl _ _).drew
  have hd : (Below w.heap.size w (w2.alloc (.cells (List.toArray [.int .i64 c0, .int .i64 c1, .int .i64 c2, .int .i64 c3, .int .i64 c4, .int .i64 c5, .int .i64 c6, .int .i64 c7, .int .i64 c8]) 31)).drew ∧ Bl w1.heap.size [.int .i64 c0, .int .i64 c1, .int .i64 c2, .int .i64 c3, .int .i64 c4, .int .i64 c5, .int .i64 c6, .int .i64 c7, .int .i64 c8] (w2.alloc (.cells (List.toArray [.int .i64 c0, .int .i64 c1, .int .i64 c2, .int .i64 c3, .int .i64 c4, .int .i64 c5, .int .i64 c6, .int .i64 c7, .int .i64 c8]) 31)).drew ∧ Bl w2.heap.size [.int .i64 c0, .int .i64 c1, .int .i64 c2, .int .i64 c3, .int .i64 c4, .int .i64 c5, .int .i64 c6, .int .i64 c7, .int .i64 c8] (w2.alloc (.cells (List.toArray [.int .i64 c0, .int .i64 c1, .int .i64 c2, .int .i64 c3, .int .i64 c4, .int .i64 c5, .int .i64 c6, .int .i64 c7, .int .i64 c8]) 31)).drew) := ⟨HB2.out.1.drew, HB2.out.2.1.below gd, HB2.out.2.2.below gd⟩
  clear gd
  refine wp_region_held_drew (S := fun w' => Below w.heap.size w w' ∧ Bl w1.heap.size [.int .i64 c0, .int .i64 c1, .int .i64 c2, .int .i64 c3, .int .i64 c4, .int .i64 c5, .int .i64 c6, .int .i64 c7, .int .i64 c8] w' ∧ Bl w2.heap.size [.int .i64 c0, .int .i64 c1, .int .i64 c2, .int .i64 c3, .int .i64 c4, .int .i64 c5, .int .i64 c6, .int .i64 c7, .int .i64 c8] w') (by kernel_rfl) hd (fun hHeld => ?_)
  refine wpAnyH_take (i := 0) (oi := { dst := some 34, op := Op.move (Operand.tmp 6), type := 28, pos := "law.go:35", after := #[], guard := none }) (v := .nilIface) rfl (by as_aux_lemma => kernel_rfl) (by as_aux_lemma => kernel_rfl) (by as_aux_lemma => kernel_rfl) (fun _ _ _ h => h) (Or.inl ⟨by rfl, ?_⟩) (by assumption) ?_
  · intro wq hSw
    go_simp
    try with_reducible rfl
  simp only [Act.put, List.setIfInBounds_toArray, List.set_cons_zero, List.set_cons_succ]
  refine wpAnyH_take (i := 2) (oi := { dst := some 36, op := Op.move (Operand.tmp 8), type := 3, pos := "law.go:35", after := #[], guard := none }) (v := .int .i64 0) rfl (by as_aux_lemma => kernel_rfl) (by as_aux_lemma => kernel_rfl) (by as_aux_lemma => kernel_rfl) (fun _ _ _ h => h) (Or.inl ⟨by rfl, ?_⟩) (by assumption) ?_
  · intro wq hSw
    go_simp
    try with_reducible rfl
  simp only [Act.put, List.setIfInBounds_toArray, List.set_cons_zero, List.set_cons_succ]
  refine wpAnyH_ready (rs := [1]) (by as_aux_lemma => kernel_rfl) (by simp) ?_
  refine AllReadyH.cons (o := { dst := some 35, op := Op.call { callee := Callee.value (Operand.func 10), args := #[Operand.tmp 34], argTypes := #[28] }, type := 3, pos := "law.go:35", after := #[{ on := 0, ground := Ground.data }], guard := none }) rfl (fun K2 hK => ?_) AllReadyH.nil
  go_simp
  go_at_call 10
  refine (num_nil _).mono ?_
  rintro e3 w3 ⟨rfl, hw3⟩
  have hd3 : (Below w.heap.size w w3 ∧ Bl w1.heap.size [.int .i64 c0, .int .i64 c1, .int .i64 c2, .int .i64 c3, .int .i64 c4, .int .i64 c5, .int .i64 c6, .int .i64 c7, .int .i64 c8] w3 ∧ Bl w2.heap.size [.int .i64 c0, .int .i64 c1, .int .i64 c2, .int .i64 c3, .int .i64 c4, .int .i64 c5, .int .i64 c6, .int .i64 c7, .int .i64 c8] w3) := by rw [← hw3]; exact hd
  clear hd hw3
  have hd := hd3
  clear hd3
  refine hK.out _ _ hd (fun hHeld => ?_)
  clear hK K2
  try simp only [Act.put, List.setIfInBounds_toArray, List.set_cons_zero, List.set_cons_succ]
  refine wpAnyH_take (i := 3) (oi := { dst := some 37, op := Op.binOp BinOp.neq 3 (Operand.tmp 35) (Operand.tmp 36) 3, type := 4, pos := "law.go:35", after := #[{ on := 1, ground := Ground.data }, { on := 2, ground := Ground.data }], guard := none }) (v := .bool false) rfl (by as_aux_lemma => kernel_rfl) (by as_aux_lemma => kernel_rfl) (by as_aux_lemma => kernel_rfl) (fun _ _ _ h => h) (Or.inl ⟨by rfl, ?_⟩) (by assumption) ?_
  · intro wq hSw
    go_simp
    try with_reducible rfl
  simp only [Act.put, List.setIfInBounds_toArray, List.set_cons_zero, List.set_cons_succ]
  refine wpAnyH_take (i := 4) (oi := { dst := some 38, op := Op.move (Operand.tmp 37), type := 4, pos := "law.go:35", after := #[{ on := 3, ground := Ground.data }, { on := 1, ground := Ground.chain }], guard := none }) (v := .bool false) rfl (by as_aux_lemma => kernel_rfl) (by as_aux_lemma => kernel_rfl) (by as_aux_lemma => kernel_rfl) (fun _ _ _ h => h) (Or.inl ⟨by rfl, ?_⟩) (by assumption) ?_
  · intro wq hSw
    go_simp
    try with_reducible rfl
  simp only [Act.put, List.setIfInBounds_toArray, List.set_cons_zero, List.set_cons_succ]
  refine wpAnyH_take (i := 5) (oi := { dst := some 39, op := Op.load 26 (Operand.tmp 5), type := 26, pos := "law.go:35", after := #[{ on := 4, ground := Ground.guard }], guard := some (4, false) }) (v := .agg (List.toArray [.int .i64 c0, .int .i64 c1, .int .i64 c2, .int .i64 c3, .int .i64 c4, .int .i64 c5, .int .i64 c6, .int .i64 c7, .int .i64 c8])) rfl (by as_aux_lemma => kernel_rfl) (by as_aux_lemma => kernel_rfl) (by as_aux_lemma => kernel_rfl) (fun _ _ _ h => h) (Or.inl ⟨by rfl, ?_⟩) (by assumption) ?_
  · intro wq hSw
    obtain ⟨s1, s2, s3⟩ := hSw
    have x0 := s2.cell 0 _ rfl
    have x1 := s2.cell 1 _ rfl
    have x2 := s2.cell 2 _ rfl
    have x3 := s2.cell 3 _ rfl
    have x4 := s2.cell 4 _ rfl
    have x5 := s2.cell 5 _ rfl
    have x6 := s2.cell 6 _ rfl
    have x7 := s2.cell 7 _ rfl
    have x8 := s2.cell 8 _ rfl
    go_simp
    try with_reducible rfl
  simp only [Act.put, List.setIfInBounds_toArray, List.set_cons_zero, List.set_cons_succ]
  refine wpAnyH_take (i := 7) (oi := { dst := some 41, op := Op.load 31 (Operand.tmp 7), type := 31, pos := "law.go:35", after := #[{ on := 4, ground := Ground.guard }], guard := some (4, false) }) (v := .agg (List.toArray [.int .i64 c0, .int .i64 c1, .int .i64 c2, .int .i64 c3, .int .i64 c4, .int .i64 c5, .int .i64 c6, .int .i64 c7, .int .i64 c8])) rfl (by as_aux_lemma => kernel_rfl) (by as_aux_lemma => kernel_rfl) (by as_aux_lemma => kernel_rfl) (fun _ _ _ h => h) (Or.inl ⟨by rfl, ?_⟩) (by assumption) ?_
  · intro wq hSw
    obtain ⟨s1, s2, s3⟩ := hSw
    have x0 := s3.cell 0 _ rfl
    have x1 := s3.cell 1 _ rfl
    have x2 := s3.cell 2 _ rfl
    have x3 := s3.cell 3 _ rfl
    have x4 := s3.cell 4 _ rfl
    have x5 := s3.cell 5 _ rfl
    have x6 := s3.cell 6 _ rfl
    have x7 := s3.cell 7 _ rfl
    have x8 := s3.cell 8 _ rfl
    go_simp
    try with_reducible rfl
  simp only [Act.put, List.setIfInBounds_toArray, List.set_cons_zero, List.set_cons_succ]
  refine wpAnyH_ready (rs := [6]) (by as_aux_lemma => kernel_rfl) (by simp) ?_
  refine AllReadyH.cons (o := { dst := some 40, op := Op.call { callee := Callee.value (Operand.func 11), args := #[Operand.tmp 39], argTypes := #[26] }, type := 31, pos := "law.go:35", after := #[{ on := 5, ground := Ground.data }, { on := 4, ground := Ground.chain }, { on := 4, ground := Ground.guard }], guard := some (4, false) }) rfl (fun K2 hK => ?_) AllReadyH.nil
  go_simp
  go_at_call 11
  refine (HF.out _).mono ?_
  rintro e4 w4 ⟨rfl, hb4⟩
  have hd4 : (Below w.heap.size w w4 ∧ Bl w1.heap.size [.int .i64 c0, .int .i64 c1, .int .i64 c2, .int .i64 c3, .int .i64 c4, .int .i64 c5, .int .i64 c6, .int .i64 c7, .int .i64 c8] w4 ∧ Bl w2.heap.size [.int .i64 c0, .int .i64 c1, .int .i64 c2, .int .i64 c3, .int .i64 c4, .int .i64 c5, .int .i64 c6, .int .i64 c7, .int .i64 c8] w4) := ⟨Below.step hd.1 hb4, hd.2.1.below hb4, hd.2.2.below hb4⟩
  clear hd hb4
  have hd := hd4
  clear hd4
  refine hK.out _ _ hd (fun hHeld => ?_)
  clear hK K2
  try simp only [Act.put, List.setIfInBounds_toArray, List.set_cons_zero, List.set_cons_succ]
  refine wpAnyH_take (i := 8) (oi := { dst := some 42, op := Op.binOp BinOp.neq 31 (Operand.tmp 40) (Operand.tmp 41) 31, type := 4, pos := "law.go:35", after := #[{ on := 6, ground := Ground.data }, { on := 7, ground := Ground.data }, { on := 4, ground := Ground.guard }], guard := some (4, false) }) (v := .bool false) rfl (by as_aux_lemma => kernel_rfl) (by as_aux_lemma => kernel_rfl) (by as_aux_lemma => kernel_rfl) (fun _ _ _ h => h) (Or.inl ⟨by rfl, ?_⟩) (by assumption) ?_
  · intro wq hSw
    have hne := HNE.out wq
    go_simp
    try with_reducible rfl
  simp only [Act.put, List.setIfInBounds_toArray, List.set_cons_zero, List.set_cons_succ]
  refine wpAnyH_take (i := 9) (oi := { dst := some 43, op := Op.pick (Operand.tmp 38) (Operand.const (Value.bool true)) (Operand.tmp 42), type := 4, pos := "law.go:35", after := #[{ on := 4, ground := Ground.data }, { on := 8, ground := Ground.data }], guard := none }) (v := .bool false) rfl (by as_aux_lemma => kernel_rfl) (by as_aux_lemma => kernel_rfl) (by as_aux_lemma => kernel_rfl) (fun _ _ _ h => h) (Or.inl ⟨by rfl, ?_⟩) (by assumption) ?_
  · intro wq hSw
    go_simp
    try with_reducible rfl
  simp only [Act.put, List.setIfInBounds_toArray, List.set_cons_zero, List.set_cons_succ]
  refine wpAnyH_done (by as_aux_lemma => kernel_rfl) ?_ _
  go_wp2_with fail
  have hB5 := hd.1
  clear hd
  refine (HN.out _).mono ?_
  rintro e6 w6 ⟨x6, rfl, hx6, hb6⟩
  have hB6 := Below.step hB5 hb6
  clear hB5 hb6 hx6
  go_wp2_with fail
  refine (HA.out _ (HW.out.below hB6)).mono ?_
  rintro e7 w7 ⟨rfl, hb7⟩
  have hB7 := Below.step hB6 hb7
  clear hB6 hb7
  go_wp2_with fail
  refine (HD.out _).mono ?_
  rintro e8 w8 ⟨rfl, hw8⟩
  subst hw8
  go_wp2_with fail
  go_ret
  exact ⟨rfl, hB7⟩
theorem walk (s t : ByteArray) (w : World) (hw : Wd w) : Calls Tryd.prog 3 #[.string s, .string t] w fun e w' => e = .returned (.bool true) ∧ Below w.heap.size w w' := by
  by_cases hl : 1000 < s.size ∨ 1000 < t.size
  · exact way_long s t w hw hl
  have hs : s.size ≤ 1000 := by omega
  have ht : t.size ≤ 1000 := by omega
  rcases h1 : lp s with ⟨c, p⟩ | cl
  · have hc := lp_code h1
    obtain ⟨n, rfl⟩ : ∃ n : Nat, c = (n : Int) := ⟨c.toNat, by omega⟩
    exact way_er s t w hw hs ht n p (by omega) (by omega) h1
  · obtain ⟨c0, c1, c2, c3, c4, c5, c6, c7, c8, rfl⟩ := lp_nine' h1
    exact way_ok s t w hw hs ht c0 c1 c2 c3 c4 c5 c6 c7 c8 h1

end Go.Proofs.YtnppopeoloigeaaDoor

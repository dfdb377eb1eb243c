/-
  The document's Print of a right reply.
-/
import Derived.Test.YtinciphhoieonaaGreatDoorRows
import Derived.Test.YtinciphhoieonaaGreatDoorKit
import Derived.Test.YtinciphhoieonaaGreatDoorApp
import Derived.Test.YtinciphhoieonaaGreatDoorQuiet
import Derived.WalkKit
import Derived.ProofKit
import Derived.OpenShut
import Derived.ShutString
import Derived.Below
import Derived.Outline
import Derived.WalkLawsBesides
import Derived.WalkSpells
import Derived.Handy
import Derived.Deep.QuietTactic
import Derived.BigQuiet
import Derived.RegionTactic
import Derived.ChangeAlike
import Derived.Lib.Hide
import Derived.Laws.Rows
import Derived.Laws.Tables
import Derived.Laws.CopyOwn
import Derived.Laws.MakeOwn
import Derived.Laws.Entries
import Derived.Laws.OwnMore
import Derived.Deep.WholeRow
import Derived.Deep.LoopGhost
import Derived.Deep.AppendLies
import Derived.Deep.Draws
import Derived.Maps.AppendAt
import Derived.OwnWalk
import Derived.Deep.RegionHeld3
import Derived.Deep.Cut
import Derived.Deep.CutRange
import Derived.Deep.DeepCutAuto
import Derived.Deep.CutBlock
import Derived.Lib.SliceRun
import Derived.IntWalk
import Derived.Laws.Strings
import Derived.Lib.Bytealg
import Derived.Lib.Strings
import Derived.Laws.Externs
import Derived.Test.YtinciphhoieonaaGreatDoorAnRq
import Derived.BigRegion
import Derived.Deep.MidRow
namespace Go.Proofs.YtinciphhoieonaaGreatDoor
open Go.ChangeShapes Go.WideShapes Go.ChangeAt Go.RowKit
set_option maxRecDepth 100000 in
set_option maxHeartbeats 8000000 in
theorem rref_print (k cd t i c : Int) (ask : Bool) (r0 r1 r2 r3 r4 r5 : Int) (L : List Lk) (A : Option Addr) (cap : Nat) (h : Rt ⟨k, cd, t, i, c, ask, r0, r1, r2, r3, r4, r5, L⟩) (hcd : cd ≤ 9223372036854775807) (hl : L.length ≤ 1000) (w : World) (hL : LkAt A L w) : Calls Tryz.prog 11 #[.agg (List.toArray [.int .i64 k, .int .i64 cd, .int .i64 t, .int .i64 i, .int .i64 c, .bool ask, .int .i64 r0, .int .i64 r1, .int .i64 r2, .int .i64 r3, .int .i64 r4, .int .i64 r5, .slice A L.length cap])] w fun e w' => e = .returned (.string (Bs (jl (aw ⟨k, cd, t, i, c, ask, r0, r1, r2, r3, r4, r5, L⟩)))) ∧ Below w.heap.size w w' := by
  have bR := Bl.new w [.int .i64 k, .int .i64 cd, .int .i64 t, .int .i64 i, .int .i64 c, .bool ask, .int .i64 r0, .int .i64 r1, .int .i64 r2, .int .i64 r3, .int .i64 r4, .int .i64 r5, .slice A L.length cap] 32
  have gB : Below w.heap.size w (w.alloc (.cells (List.toArray [.int .i64 k, .int .i64 cd, .int .i64 t, .int .i64 i, .int .i64 c, .bool ask, .int .i64 r0, .int .i64 r1, .int .i64 r2, .int .i64 r3, .int .i64 r4, .int .i64 r5, .slice A L.length cap]) 32)) := by go_grown
  obtain ⟨W, hW⟩ : ∃ W, W = w.alloc (.cells (List.toArray [.int .i64 k, .int .i64 cd, .int .i64 t, .int .i64 i, .int .i64 c, .bool ask, .int .i64 r0, .int .i64 r1, .int .i64 r2, .int .i64 r3, .int .i64 r4, .int .i64 r5, .slice A L.length cap]) 32) := ⟨_, rfl⟩
  obtain ⟨RB, hRB⟩ : ∃ RB, RB = w.heap.size := ⟨_, rfl⟩
  rw [← hW] at bR gB
  rw [← hRB] at bR
  have HB : Hid (Bl RB [.int .i64 k, .int .i64 cd, .int .i64 t, .int .i64 i, .int .i64 c, .bool ask, .int .i64 r0, .int .i64 r1, .int .i64 r2, .int .i64 r3, .int .i64 r4, .int .i64 r5, .slice A L.length cap] W ∧ Below w.heap.size w W) := Lib.hid ⟨bR, gB⟩
  have HWE := Lib.hid hW
  have HRE := Lib.hid hRB
  have HLK := Lib.hid hL
  have HLL := Lib.hid hl
  have HRT := Lib.hid h
  have HCD := Lib.hid hcd
  have n1 : (L.length : Int) ≤ 1000 := by omega
  have HSH := Lib.hid (jl_short ⟨k, cd, t, i, c, ask, r0, r1, r2, r3, r4, r5, L⟩ h hl hcd)
  have HST : Hid ((Bs (dcl t.toNat)).size ≤ 100 ∧ (dcl t.toNat).length ≤ 100) := Lib.hid (by
    rw [Bs_size]
    have h1 : 0 ≤ t ∧ t ≤ 1000000 := h.t
    have := dcl_int_len (x := t) (by omega)
    omega)
  have HTT : Hid (0 ≤ t ∧ t ≤ 9223372036854775807) := Lib.hid (by have h1 : 0 ≤ t ∧ t ≤ 1000000 := h.t; omega)
  clear bR gB hW hRB hL hl h hcd
  go_enter Tryz.func11, Tryz.ntmps11
  go_upto_region 1 with fail
  rw [← HWE.out, ← HRE.out]
  go_cut [3] (fun s wx => s = .string (Bs (jl [dcl t.toNat, vbl k])) ∧ Hid (Bl RB [.int .i64 k, .int .i64 cd, .int .i64 t, .int .i64 i, .int .i64 c, .bool ask, .int .i64 r0, .int .i64 r1, .int .i64 r2, .int .i64 r3, .int .i64 r4, .int .i64 r5, .slice A L.length cap] wx ∧ Below w.heap.size w wx))
  case first =>
    have hk4 : k = 1 ∨ k = 2 ∨ k = 3 ∨ k = 4 := by
      have h9 : 1 ≤ k ∧ k ≤ 4 := HRT.out.k
      omega
    rcases hk4 with rfl | rfl | rfl | rfl
    · skip
      have q0 : Bl RB [.int .i64 1, .int .i64 cd, .int .i64 t, .int .i64 i, .int .i64 c, .bool ask, .int .i64 r0, .int .i64 r1, .int .i64 r2, .int .i64 r3, .int .i64 r4, .int .i64 r5, .slice A L.length cap] W := HB.out.1
      refine wp_region_held_drew (S := fun w' => Bl RB [.int .i64 1, .int .i64 cd, .int .i64 t, .int .i64 i, .int .i64 c, .bool ask, .int .i64 r0, .int .i64 r1, .int .i64 r2, .int .i64 r3, .int .i64 r4, .int .i64 r5, .slice A L.length cap] w') (by kernel_rfl) (q0.below ((Below.refl _ _).drew)) (fun hHeld => ?_)
      have gd : Below W.heap.size W W.drew := (Below.refl _ _).drew
      have HB0 : Hid (Bl RB [.int .i64 1, .int .i64 cd, .int .i64 t, .int .i64 i, .int .i64 c, .bool ask, .int .i64 r0, .int .i64 r1, .int .i64 r2, .int .i64 r3, .int .i64 r4, .int .i64 r5, .slice A L.length cap] W.drew ∧ Below w.heap.size w W.drew) := Lib.hid ⟨HB.out.1.below gd, Below.step HB.out.2 gd⟩
      clear gd q0
      generalize W.drew = WD at HB0 hHeld ⊢
      refine wpAnyH_take (i := 0) (oi := { dst := some 6, op := Op.fieldAddr 32 (Operand.tmp 1) 2, type := 0, pos := "ref.go:43", after := #[], guard := none }) (v := .pointer (some ⟨RB, 2, none⟩)) rfl (by as_aux_lemma => kernel_rfl) (by as_aux_lemma => kernel_rfl) (by as_aux_lemma => kernel_rfl) (fun _ _ _ h => h) (Or.inl ⟨by rfl, ?_⟩) (by assumption) ?_
      · intro wq hSw
        go_simp
        try with_reducible rfl
      simp only [Act.put, List.setIfInBounds_toArray, List.set_cons_zero, List.set_cons_succ]
      refine wpAnyH_take (i := 1) (oi := { dst := some 7, op := Op.load 3 (Operand.tmp 6), type := 3, pos := "ref.go:43", after := #[{ on := 0, ground := Ground.data }], guard := none }) (v := .int .i64 t) rfl (by as_aux_lemma => kernel_rfl) (by as_aux_lemma => kernel_rfl) (by as_aux_lemma => kernel_rfl) (fun _ _ _ h => h) (Or.inl ⟨by rfl, ?_⟩) (by assumption) ?_
      · intro wq hSw
        have y2 := hSw.cell 2 _ rfl
        go_simp
        try with_reducible rfl
      simp only [Act.put, List.setIfInBounds_toArray, List.set_cons_zero, List.set_cons_succ]
      refine wpAnyH_take (i := 5) (oi := { dst := some 11, op := Op.fieldAddr 32 (Operand.tmp 1) 0, type := 0, pos := "ref.go:43", after := #[], guard := none }) (v := .pointer (some ⟨RB, 0, none⟩)) rfl (by as_aux_lemma => kernel_rfl) (by as_aux_lemma => kernel_rfl) (by as_aux_lemma => kernel_rfl) (fun _ _ _ h => h) (Or.inl ⟨by rfl, ?_⟩) (by assumption) ?_
      · intro wq hSw
        go_simp
        try with_reducible rfl
      simp only [Act.put, List.setIfInBounds_toArray, List.set_cons_zero, List.set_cons_succ]
      refine wpAnyH_take (i := 6) (oi := { dst := some 12, op := Op.load 3 (Operand.tmp 11), type := 3, pos := "ref.go:43", after := #[{ on := 5, ground := Ground.data }], guard := none }) (v := .int .i64 1) rfl (by as_aux_lemma => kernel_rfl) (by as_aux_lemma => kernel_rfl) (by as_aux_lemma => kernel_rfl) (fun _ _ _ h => h) (Or.inl ⟨by rfl, ?_⟩) (by assumption) ?_
      · intro wq hSw
        have y0 := hSw.cell 0 _ rfl
        go_simp
        try with_reducible rfl
      simp only [Act.put, List.setIfInBounds_toArray, List.set_cons_zero, List.set_cons_succ]
      refine wpAnyH_take (i := 7) (oi := { dst := some 13, op := Op.binOp BinOp.sub 3 (Operand.tmp 12) (Operand.const (Value.int IntKind.i64 1)) 3, type := 3, pos := "ref.go:43", after := #[{ on := 6, ground := Ground.data }], guard := none }) (v := .int .i64 0) rfl (by as_aux_lemma => kernel_rfl) (by as_aux_lemma => kernel_rfl) (by as_aux_lemma => kernel_rfl) (fun _ _ _ h => h) (Or.inl ⟨by rfl, ?_⟩) (by assumption) ?_
      · intro wq hSw
        go_simp
        try first | with_reducible rfl | decide | rfl
      simp only [Act.put, List.setIfInBounds_toArray, List.set_cons_zero, List.set_cons_succ]
      refine wpAnyH_ready (rs := [2, 4]) (by as_aux_lemma => kernel_rfl) (by simp) ?_
      refine AllReadyH.cons (o := { dst := some 8, op := Op.call { callee := Callee.value (Operand.func 30), args := #[Operand.tmp 7], argTypes := #[3] }, type := 9, pos := "ref.go:43", after := #[{ on := 1, ground := Ground.data }], guard := none }) rfl (fun K2 hK => ?_) (AllReadyH.cons (o := { dst := some 10, op := Op.buildSlice 55 4 #[(0, Operand.const (Value.string { data := #[115, 117, 98, 109, 105, 116] })), (1, Operand.const (Value.string { data := #[99, 97, 110, 99, 101, 108] })), (2, Operand.const (Value.string { data := #[112, 111, 108, 108] })), (3, Operand.const (Value.string { data := #[118, 105, 101, 119] }))], type := 55, pos := "ref.go:43", after := #[], guard := none }) rfl (fun K2 hK => ?_) AllReadyH.nil)
      · go_simp
        go_at_call 30
        refine (decimal_nn t HTT.out WD).mono ?_
        rintro e1 u1 ⟨rfl, hb1⟩
        have HK1 : Hid (Bl RB [.int .i64 1, .int .i64 cd, .int .i64 t, .int .i64 i, .int .i64 c, .bool ask, .int .i64 r0, .int .i64 r1, .int .i64 r2, .int .i64 r3, .int .i64 r4, .int .i64 r5, .slice A L.length cap] u1 ∧ Below w.heap.size w u1) := Lib.hid ⟨HB0.out.1.below hb1, Below.step HB0.out.2 hb1⟩
        clear hb1
        refine hK.out _ _ (HK1.out.1) (fun _ => ?_)
        clear hK K2
        try simp only [Act.put, List.setIfInBounds_toArray, List.set_cons_zero, List.set_cons_succ]
        refine wpAnyH_take (i := 3) (oi := { dst := some 9, op := Op.binOp BinOp.add 9 (Operand.tmp 8) (Operand.const (Value.string { data := #[32] })) 9, type := 9, pos := "ref.go:43", after := #[{ on := 2, ground := Ground.data }], guard := none }) (v := .string (Bs (dcl t.toNat) ++ ⟨#[32]⟩)) rfl (by as_aux_lemma => kernel_rfl) (by as_aux_lemma => kernel_rfl) (by as_aux_lemma => kernel_rfl) (fun _ _ _ h => h) (Or.inl ⟨by rfl, ?_⟩) (by assumption) ?_
        · intro wq hSw
          obtain ⟨hsT, hsU⟩ := HST.out
          go_simp
          try first | with_reducible rfl | omega | rw [if_neg (by omega)] | (simp only [ByteArray.size_append, Bs_size]; omega)
        simp only [Act.put, List.setIfInBounds_toArray, List.set_cons_zero, List.set_cons_succ]
        refine wpAnyH_ready (rs := [4]) (by as_aux_lemma => kernel_rfl) (by simp) ?_
        refine AllReadyH.cons (o := { dst := some 10, op := Op.buildSlice 55 4 #[(0, Operand.const (Value.string { data := #[115, 117, 98, 109, 105, 116] })), (1, Operand.const (Value.string { data := #[99, 97, 110, 99, 101, 108] })), (2, Operand.const (Value.string { data := #[112, 111, 108, 108] })), (3, Operand.const (Value.string { data := #[118, 105, 101, 119] }))], type := 55, pos := "ref.go:43", after := #[], guard := none }) rfl (fun K2 hK => ?_) AllReadyH.nil
        have gb2 : Below u1.heap.size u1 (u1.alloc (.cells (List.toArray [.string ⟨#[115, 117, 98, 109, 105, 116]⟩, .string ⟨#[99, 97, 110, 99, 101, 108]⟩, .string ⟨#[112, 111, 108, 108]⟩, .string ⟨#[118, 105, 101, 119]⟩]) 9)) := by go_grown
        have HK2 : Hid (Bl RB [.int .i64 1, .int .i64 cd, .int .i64 t, .int .i64 i, .int .i64 c, .bool ask, .int .i64 r0, .int .i64 r1, .int .i64 r2, .int .i64 r3, .int .i64 r4, .int .i64 r5, .slice A L.length cap] (u1.alloc (.cells (List.toArray [.string ⟨#[115, 117, 98, 109, 105, 116]⟩, .string ⟨#[99, 97, 110, 99, 101, 108]⟩, .string ⟨#[112, 111, 108, 108]⟩, .string ⟨#[118, 105, 101, 119]⟩]) 9)) ∧ Below w.heap.size w (u1.alloc (.cells (List.toArray [.string ⟨#[115, 117, 98, 109, 105, 116]⟩, .string ⟨#[99, 97, 110, 99, 101, 108]⟩, .string ⟨#[112, 111, 108, 108]⟩, .string ⟨#[118, 105, 101, 119]⟩]) 9))) := Lib.hid ⟨HK1.out.1.below gb2, Below.step HK1.out.2 gb2⟩
        have HV2 := Lib.hid (Bl.new u1 [.string ⟨#[115, 117, 98, 109, 105, 116]⟩, .string ⟨#[99, 97, 110, 99, 101, 108]⟩, .string ⟨#[112, 111, 108, 108]⟩, .string ⟨#[118, 105, 101, 119]⟩] 9)
        clear gb2
        go_simp
        refine hK.out _ _ (HK2.out.1) (fun _ => ?_)
        clear hK K2
        try simp only [Act.put, List.setIfInBounds_toArray, List.set_cons_zero, List.set_cons_succ]
        refine wpAnyH_take (i := 8) (oi := { dst := some 14, op := Op.indexAddr 55 (Operand.tmp 10) (Operand.tmp 13), type := 0, pos := "ref.go:43", after := #[{ on := 4, ground := Ground.data }, { on := 7, ground := Ground.data }], guard := none }) (v := .pointer (some ⟨u1.heap.size, 0, none⟩)) rfl (by as_aux_lemma => kernel_rfl) (by as_aux_lemma => kernel_rfl) (by as_aux_lemma => kernel_rfl) (fun _ _ _ h => h) (Or.inl ⟨by rfl, ?_⟩) (by assumption) ?_
        · intro wq hSw
          go_simp
          try with_reducible rfl
        simp only [Act.put, List.setIfInBounds_toArray, List.set_cons_zero, List.set_cons_succ]
        refine wpAnyH_ready (rs := [9]) (by as_aux_lemma => kernel_rfl) (by simp) ?_
        refine AllReadyH.cons (o := { dst := some 15, op := Op.load 9 (Operand.tmp 14), type := 9, pos := "ref.go:43", after := #[{ on := 8, ground := Ground.data }], guard := none }) rfl (fun K2 hK => ?_) AllReadyH.nil
        have xl := HV2.out.cell 0 _ rfl
        go_simp
        clear xl
        refine hK.out _ _ (HK2.out.1) (fun _ => ?_)
        clear hK K2
        try simp only [Act.put, List.setIfInBounds_toArray, List.set_cons_zero, List.set_cons_succ]
        refine wpAnyH_take (i := 10) (oi := { dst := some 16, op := Op.binOp BinOp.add 9 (Operand.tmp 9) (Operand.tmp 15) 9, type := 9, pos := "ref.go:43", after := #[{ on := 3, ground := Ground.data }, { on := 9, ground := Ground.data }], guard := none }) (v := .string (Bs (dcl t.toNat) ++ ⟨#[32]⟩ ++ ⟨#[115, 117, 98, 109, 105, 116]⟩)) rfl (by as_aux_lemma => kernel_rfl) (by as_aux_lemma => kernel_rfl) (by as_aux_lemma => kernel_rfl) (fun _ _ _ h => h) (Or.inl ⟨by rfl, ?_⟩) (by assumption) ?_
        · intro wq hSw
          obtain ⟨hsT, hsU⟩ := HST.out
          have e9 : (Bs (dcl t.toNat) ++ (⟨#[32]⟩ : ByteArray)).size = (dcl t.toNat).length + 1 := by rw [ByteArray.size_append, Bs_size]; rfl
          go_simp
          try first | with_reducible rfl | omega | rw [if_neg (by omega)] | (simp only [ByteArray.size_append, Bs_size]; omega)
        simp only [Act.put, List.setIfInBounds_toArray, List.set_cons_zero, List.set_cons_succ]
        refine wpAnyH_take (i := 11) (oi := { dst := some 3, op := Op.assign (Operand.tmp 16), type := 9, pos := "ref.go:43", after := #[{ on := 10, ground := Ground.data }, { on := 2, ground := Ground.chain }, { on := 0, ground := Ground.phase }, { on := 1, ground := Ground.phase }, { on := 2, ground := Ground.phase }, { on := 3, ground := Ground.phase }, { on := 4, ground := Ground.phase }, { on := 5, ground := Ground.phase }, { on := 6, ground := Ground.phase }, { on := 7, ground := Ground.phase }, { on := 8, ground := Ground.phase }, { on := 9, ground := Ground.phase }, { on := 10, ground := Ground.phase }], guard := none }) (v := .string (Bs (dcl t.toNat) ++ ⟨#[32]⟩ ++ ⟨#[115, 117, 98, 109, 105, 116]⟩)) rfl (by as_aux_lemma => kernel_rfl) (by as_aux_lemma => kernel_rfl) (by as_aux_lemma => kernel_rfl) (fun _ _ _ h => h) (Or.inl ⟨by rfl, ?_⟩) (by assumption) ?_
        · intro wq hSw
          go_simp
          try with_reducible rfl
        simp only [Act.put, List.setIfInBounds_toArray, List.set_cons_zero, List.set_cons_succ]
        refine wpAnyH_done (by as_aux_lemma => kernel_rfl) ?_ _
        go_wp2_with fail
        go_meet
        case rel => exact ⟨rel_1 _, Lib.hid HK2.out⟩
      · have gb3 : Below WD.heap.size WD (WD.alloc (.cells (List.toArray [.string ⟨#[115, 117, 98, 109, 105, 116]⟩, .string ⟨#[99, 97, 110, 99, 101, 108]⟩, .string ⟨#[112, 111, 108, 108]⟩, .string ⟨#[118, 105, 101, 119]⟩]) 9)) := by go_grown
        have HK3 : Hid (Bl RB [.int .i64 1, .int .i64 cd, .int .i64 t, .int .i64 i, .int .i64 c, .bool ask, .int .i64 r0, .int .i64 r1, .int .i64 r2, .int .i64 r3, .int .i64 r4, .int .i64 r5, .slice A L.length cap] (WD.alloc (.cells (List.toArray [.string ⟨#[115, 117, 98, 109, 105, 116]⟩, .string ⟨#[99, 97, 110, 99, 101, 108]⟩, .string ⟨#[112, 111, 108, 108]⟩, .string ⟨#[118, 105, 101, 119]⟩]) 9)) ∧ Below w.heap.size w (WD.alloc (.cells (List.toArray [.string ⟨#[115, 117, 98, 109, 105, 116]⟩, .string ⟨#[99, 97, 110, 99, 101, 108]⟩, .string ⟨#[112, 111, 108, 108]⟩, .string ⟨#[118, 105, 101, 119]⟩]) 9))) := Lib.hid ⟨HB0.out.1.below gb3, Below.step HB0.out.2 gb3⟩
        have HV3 := Lib.hid (Bl.new WD [.string ⟨#[115, 117, 98, 109, 105, 116]⟩, .string ⟨#[99, 97, 110, 99, 101, 108]⟩, .string ⟨#[112, 111, 108, 108]⟩, .string ⟨#[118, 105, 101, 119]⟩] 9)
        clear gb3
        go_simp
        refine hK.out _ _ (HK3.out.1) (fun _ => ?_)
        clear hK K2
        try simp only [Act.put, List.setIfInBounds_toArray, List.set_cons_zero, List.set_cons_succ]
        refine wpAnyH_take (i := 8) (oi := { dst := some 14, op := Op.indexAddr 55 (Operand.tmp 10) (Operand.tmp 13), type := 0, pos := "ref.go:43", after := #[{ on := 4, ground := Ground.data }, { on := 7, ground := Ground.data }], guard := none }) (v := .pointer (some ⟨WD.heap.size, 0, none⟩)) rfl (by as_aux_lemma => kernel_rfl) (by as_aux_lemma => kernel_rfl) (by as_aux_lemma => kernel_rfl) (fun _ _ _ h => h) (Or.inl ⟨by rfl, ?_⟩) (by assumption) ?_
        · intro wq hSw
          go_simp
          try with_reducible rfl
        simp only [Act.put, List.setIfInBounds_toArray, List.set_cons_zero, List.set_cons_succ]
        refine wpAnyH_ready (rs := [2, 9]) (by as_aux_lemma => kernel_rfl) (by simp) ?_
        refine AllReadyH.cons (o := { dst := some 8, op := Op.call { callee := Callee.value (Operand.func 30), args := #[Operand.tmp 7], argTypes := #[3] }, type := 9, pos := "ref.go:43", after := #[{ on := 1, ground := Ground.data }], guard := none }) rfl (fun K2 hK => ?_) (AllReadyH.cons (o := { dst := some 15, op := Op.load 9 (Operand.tmp 14), type := 9, pos := "ref.go:43", after := #[{ on := 8, ground := Ground.data }], guard := none }) rfl (fun K2 hK => ?_) AllReadyH.nil)
        · go_simp
          go_at_call 30
          refine (decimal_nn t HTT.out (WD.alloc (.cells (List.toArray [.string ⟨#[115, 117, 98, 109, 105, 116]⟩, .string ⟨#[99, 97, 110, 99, 101, 108]⟩, .string ⟨#[112, 111, 108, 108]⟩, .string ⟨#[118, 105, 101, 119]⟩]) 9))).mono ?_
          rintro e4 u4 ⟨rfl, hb4⟩
          have HK4 : Hid (Bl RB [.int .i64 1, .int .i64 cd, .int .i64 t, .int .i64 i, .int .i64 c, .bool ask, .int .i64 r0, .int .i64 r1, .int .i64 r2, .int .i64 r3, .int .i64 r4, .int .i64 r5, .slice A L.length cap] u4 ∧ Below w.heap.size w u4) := Lib.hid ⟨HK3.out.1.below hb4, Below.step HK3.out.2 hb4⟩
          have HV4 := Lib.hid (HV3.out.below hb4)
          clear hb4
          refine hK.out _ _ (HK4.out.1) (fun _ => ?_)
          clear hK K2
          try simp only [Act.put, List.setIfInBounds_toArray, List.set_cons_zero, List.set_cons_succ]
          refine wpAnyH_take (i := 3) (oi := { dst := some 9, op := Op.binOp BinOp.add 9 (Operand.tmp 8) (Operand.const (Value.string { data := #[32] })) 9, type := 9, pos := "ref.go:43", after := #[{ on := 2, ground := Ground.data }], guard := none }) (v := .string (Bs (dcl t.toNat) ++ ⟨#[32]⟩)) rfl (by as_aux_lemma => kernel_rfl) (by as_aux_lemma => kernel_rfl) (by as_aux_lemma => kernel_rfl) (fun _ _ _ h => h) (Or.inl ⟨by rfl, ?_⟩) (by assumption) ?_
          · intro wq hSw
            obtain ⟨hsT, hsU⟩ := HST.out
            go_simp
            try first | with_reducible rfl | omega | rw [if_neg (by omega)] | (simp only [ByteArray.size_append, Bs_size]; omega)
          simp only [Act.put, List.setIfInBounds_toArray, List.set_cons_zero, List.set_cons_succ]
          refine wpAnyH_ready (rs := [9]) (by as_aux_lemma => kernel_rfl) (by simp) ?_
          refine AllReadyH.cons (o := { dst := some 15, op := Op.load 9 (Operand.tmp 14), type := 9, pos := "ref.go:43", after := #[{ on := 8, ground := Ground.data }], guard := none }) rfl (fun K2 hK => ?_) AllReadyH.nil
          have xl := HV4.out.cell 0 _ rfl
          go_simp
          clear xl
          refine hK.out _ _ (HK4.out.1) (fun _ => ?_)
          clear hK K2
          try simp only [Act.put, List.setIfInBounds_toArray, List.set_cons_zero, List.set_cons_succ]
          refine wpAnyH_take (i := 10) (oi := { dst := some 16, op := Op.binOp BinOp.add 9 (Operand.tmp 9) (Operand.tmp 15) 9, type := 9, pos := "ref.go:43", after := #[{ on := 3, ground := Ground.data }, { on := 9, ground := Ground.data }], guard := none }) (v := .string (Bs (dcl t.toNat) ++ ⟨#[32]⟩ ++ ⟨#[115, 117, 98, 109, 105, 116]⟩)) rfl (by as_aux_lemma => kernel_rfl) (by as_aux_lemma => kernel_rfl) (by as_aux_lemma => kernel_rfl) (fun _ _ _ h => h) (Or.inl ⟨by rfl, ?_⟩) (by assumption) ?_
          · intro wq hSw
            obtain ⟨hsT, hsU⟩ := HST.out
            have e9 : (Bs (dcl t.toNat) ++ (⟨#[32]⟩ : ByteArray)).size = (dcl t.toNat).length + 1 := by rw [ByteArray.size_append, Bs_size]; rfl
            go_simp
            try first | with_reducible rfl | omega | rw [if_neg (by omega)] | (simp only [ByteArray.size_append, Bs_size]; omega)
          simp only [Act.put, List.setIfInBounds_toArray, List.set_cons_zero, List.set_cons_succ]
          refine wpAnyH_take (i := 11) (oi := { dst := some 3, op := Op.assign (Operand.tmp 16), type := 9, pos := "ref.go:43", after := #[{ on := 10, ground := Ground.data }, { on := 2, ground := Ground.chain }, { on := 0, ground := Ground.phase }, { on := 1, ground := Ground.phase }, { on := 2, ground := Ground.phase }, { on := 3, ground := Ground.phase }, { on := 4, ground := Ground.phase }, { on := 5, ground := Ground.phase }, { on := 6, ground := Ground.phase }, { on := 7, ground := Ground.phase }, { on := 8, ground := Ground.phase }, { on := 9, ground := Ground.phase }, { on := 10, ground := Ground.phase }], guard := none }) (v := .string (Bs (dcl t.toNat) ++ ⟨#[32]⟩ ++ ⟨#[115, 117, 98, 109, 105, 116]⟩)) rfl (by as_aux_lemma => kernel_rfl) (by as_aux_lemma => kernel_rfl) (by as_aux_lemma => kernel_rfl) (fun _ _ _ h => h) (Or.inl ⟨by rfl, ?_⟩) (by assumption) ?_
          · intro wq hSw
            go_simp
            try with_reducible rfl
          simp only [Act.put, List.setIfInBounds_toArray, List.set_cons_zero, List.set_cons_succ]
          refine wpAnyH_done (by as_aux_lemma => kernel_rfl) ?_ _
          go_wp2_with fail
          go_meet
          case rel => exact ⟨rel_1 _, Lib.hid HK4.out⟩
        · have xl := HV3.out.cell 0 _ rfl
          go_simp
          clear xl
          refine hK.out _ _ (HK3.out.1) (fun _ => ?_)
          clear hK K2
          try simp only [Act.put, List.setIfInBounds_toArray, List.set_cons_zero, List.set_cons_succ]
          refine wpAnyH_ready (rs := [2]) (by as_aux_lemma => kernel_rfl) (by simp) ?_
          refine AllReadyH.cons (o := { dst := some 8, op := Op.call { callee := Callee.value (Operand.func 30), args := #[Operand.tmp 7], argTypes := #[3] }, type := 9, pos := "ref.go:43", after := #[{ on := 1, ground := Ground.data }], guard := none }) rfl (fun K2 hK => ?_) AllReadyH.nil
          go_simp
          go_at_call 30
          refine (decimal_nn t HTT.out (WD.alloc (.cells (List.toArray [.string ⟨#[115, 117, 98, 109, 105, 116]⟩, .string ⟨#[99, 97, 110, 99, 101, 108]⟩, .string ⟨#[112, 111, 108, 108]⟩, .string ⟨#[118, 105, 101, 119]⟩]) 9))).mono ?_
          rintro e5 u5 ⟨rfl, hb5⟩
          have HK5 : Hid (Bl RB [.int .i64 1, .int .i64 cd, .int .i64 t, .int .i64 i, .int .i64 c, .bool ask, .int .i64 r0, .int .i64 r1, .int .i64 r2, .int .i64 r3, .int .i64 r4, .int .i64 r5, .slice A L.length cap] u5 ∧ Below w.heap.size w u5) := Lib.hid ⟨HK3.out.1.below hb5, Below.step HK3.out.2 hb5⟩
          clear hb5
          refine hK.out _ _ (HK5.out.1) (fun _ => ?_)
          clear hK K2
          try simp only [Act.put, List.setIfInBounds_toArray, List.set_cons_zero, List.set_cons_succ]
          refine wpAnyH_take (i := 3) (oi := { dst := some 9, op := Op.binOp BinOp.add 9 (Operand.tmp 8) (Operand.const (Value.string { data := #[32] })) 9, type := 9, pos := "ref.go:43", after := #[{ on := 2, ground := Ground.data }], guard := none }) (v := .string (Bs (dcl t.toNat) ++ ⟨#[32]⟩)) rfl (by as_aux_lemma => kernel_rfl) (by as_aux_lemma => kernel_rfl) (by as_aux_lemma => kernel_rfl) (fun _ _ _ h => h) (Or.inl ⟨by rfl, ?_⟩) (by assumption) ?_
          · intro wq hSw
            obtain ⟨hsT, hsU⟩ := HST.out
            go_simp
            try first | with_reducible rfl | omega | rw [if_neg (by omega)] | (simp only [ByteArray.size_append, Bs_size]; omega)
          simp only [Act.put, List.setIfInBounds_toArray, List.set_cons_zero, List.set_cons_succ]
          refine wpAnyH_take (i := 10) (oi := { dst := some 16, op := Op.binOp BinOp.add 9 (Operand.tmp 9) (Operand.tmp 15) 9, type := 9, pos := "ref.go:43", after := #[{ on := 3, ground := Ground.data }, { on := 9, ground := Ground.data }], guard := none }) (v := .string (Bs (dcl t.toNat) ++ ⟨#[32]⟩ ++ ⟨#[115, 117, 98, 109, 105, 116]⟩)) rfl (by as_aux_lemma => kernel_rfl) (by as_aux_lemma => kernel_rfl) (by as_aux_lemma => kernel_rfl) (fun _ _ _ h => h) (Or.inl ⟨by rfl, ?_⟩) (by assumption) ?_
          · intro wq hSw
            obtain ⟨hsT, hsU⟩ := HST.out
            have e9 : (Bs (dcl t.toNat) ++ (⟨#[32]⟩ : ByteArray)).size = (dcl t.toNat).length + 1 := by rw [ByteArray.size_append, Bs_size]; rfl
            go_simp
            try first | with_reducible rfl | omega | rw [if_neg (by omega)] | (simp only [ByteArray.size_append, Bs_size]; omega)
          simp only [Act.put, List.setIfInBounds_toArray, List.set_cons_zero, List.set_cons_succ]
          refine wpAnyH_take (i := 11) (oi := { dst := some 3, op := Op.assign (Operand.tmp 16), type := 9, pos := "ref.go:43", after := #[{ on := 10, ground := Ground.data }, { on := 2, ground := Ground.chain }, { on := 0, ground := Ground.phase }, { on := 1, ground := Ground.phase }, { on := 2, ground := Ground.phase }, { on := 3, ground := Ground.phase }, { on := 4, ground := Ground.phase }, { on := 5, ground := Ground.phase }, { on := 6, ground := Ground.phase }, { on := 7, ground := Ground.phase }, { on := 8, ground := Ground.phase }, { on := 9, ground := Ground.phase }, { on := 10, ground := Ground.phase }], guard := none }) (v := .string (Bs (dcl t.toNat) ++ ⟨#[32]⟩ ++ ⟨#[115, 117, 98, 109, 105, 116]⟩)) rfl (by as_aux_lemma => kernel_rfl) (by as_aux_lemma => kernel_rfl) (by as_aux_lemma => kernel_rfl) (fun _ _ _ h => h) (Or.inl ⟨by rfl, ?_⟩) (by assumption) ?_
          · intro wq hSw
            go_simp
            try with_reducible rfl
          simp only [Act.put, List.setIfInBounds_toArray, List.set_cons_zero, List.set_cons_succ]
          refine wpAnyH_done (by as_aux_lemma => kernel_rfl) ?_ _
          go_wp2_with fail
          go_meet
          case rel => exact ⟨rel_1 _, Lib.hid HK5.out⟩
    · skip
      have q0 : Bl RB [.int .i64 2, .int .i64 cd, .int .i64 t, .int .i64 i, .int .i64 c, .bool ask, .int .i64 r0, .int .i64 r1, .int .i64 r2, .int .i64 r3, .int .i64 r4, .int .i64 r5, .slice A L.length cap] W := HB.out.1
      refine wp_region_held_drew (S := fun w' => Bl RB [.int .i64 2, .int .i64 cd, .int .i64 t, .int .i64 i, .int .i64 c, .bool ask, .int .i64 r0, .int .i64 r1, .int .i64 r2, .int .i64 r3, .int .i64 r4, .int .i64 r5, .slice A L.length cap] w') (by kernel_rfl) (q0.below ((Below.refl _ _).drew)) (fun hHeld => ?_)
      have gd : Below W.heap.size W W.drew := (Below.refl _ _).drew
      have HB0 : Hid (Bl RB [.int .i64 2, .int .i64 cd, .int .i64 t, .int .i64 i, .int .i64 c, .bool ask, .int .i64 r0, .int .i64 r1, .int .i64 r2, .int .i64 r3, .int .i64 r4, .int .i64 r5, .slice A L.length cap] W.drew ∧ Below w.heap.size w W.drew) := Lib.hid ⟨HB.out.1.below gd, Below.step HB.out.2 gd⟩
      clear gd q0
      generalize W.drew = WD at HB0 hHeld ⊢
      refine wpAnyH_take (i := 0) (oi := { dst := some 6, op := Op.fieldAddr 32 (Operand.tmp 1) 2, type := 0, pos := "ref.go:43", after := #[], guard := none }) (v := .pointer (some ⟨RB, 2, none⟩)) rfl (by as_aux_lemma => kernel_rfl) (by as_aux_lemma => kernel_rfl) (by as_aux_lemma => kernel_rfl) (fun _ _ _ h => h) (Or.inl ⟨by rfl, ?_⟩) (by assumption) ?_
      · intro wq hSw
        go_simp
        try with_reducible rfl
      simp only [Act.put, List.setIfInBounds_toArray, List.set_cons_zero, List.set_cons_succ]
      refine wpAnyH_take (i := 1) (oi := { dst := some 7, op := Op.load 3 (Operand.tmp 6), type := 3, pos := "ref.go:43", after := #[{ on := 0, ground := Ground.data }], guard := none }) (v := .int .i64 t) rfl (by as_aux_lemma => kernel_rfl) (by as_aux_lemma => kernel_rfl) (by as_aux_lemma => kernel_rfl) (fun _ _ _ h => h) (Or.inl ⟨by rfl, ?_⟩) (by assumption) ?_
      · intro wq hSw
        have y2 := hSw.cell 2 _ rfl
        go_simp
        try with_reducible rfl
      simp only [Act.put, List.setIfInBounds_toArray, List.set_cons_zero, List.set_cons_succ]
      refine wpAnyH_take (i := 5) (oi := { dst := some 11, op := Op.fieldAddr 32 (Operand.tmp 1) 0, type := 0, pos := "ref.go:43", after := #[], guard := none }) (v := .pointer (some ⟨RB, 0, none⟩)) rfl (by as_aux_lemma => kernel_rfl) (by as_aux_lemma => kernel_rfl) (by as_aux_lemma => kernel_rfl) (fun _ _ _ h => h) (Or.inl ⟨by rfl, ?_⟩) (by assumption) ?_
      · intro wq hSw
        go_simp
        try with_reducible rfl
      simp only [Act.put, List.setIfInBounds_toArray, List.set_cons_zero, List.set_cons_succ]
      refine wpAnyH_take (i := 6) (oi := { dst := some 12, op := Op.load 3 (Operand.tmp 11), type := 3, pos := "ref.go:43", after := #[{ on := 5, ground := Ground.data }], guard := none }) (v := .int .i64 2) rfl (by as_aux_lemma => kernel_rfl) (by as_aux_lemma => kernel_rfl) (by as_aux_lemma => kernel_rfl) (fun _ _ _ h => h) (Or.inl ⟨by rfl, ?_⟩) (by assumption) ?_
      · intro wq hSw
        have y0 := hSw.cell 0 _ rfl
        go_simp
        try with_reducible rfl
      simp only [Act.put, List.setIfInBounds_toArray, List.set_cons_zero, List.set_cons_succ]
      refine wpAnyH_take (i := 7) (oi := { dst := some 13, op := Op.binOp BinOp.sub 3 (Operand.tmp 12) (Operand.const (Value.int IntKind.i64 1)) 3, type := 3, pos := "ref.go:43", after := #[{ on := 6, ground := Ground.data }], guard := none }) (v := .int .i64 1) rfl (by as_aux_lemma => kernel_rfl) (by as_aux_lemma => kernel_rfl) (by as_aux_lemma => kernel_rfl) (fun _ _ _ h => h) (Or.inl ⟨by rfl, ?_⟩) (by assumption) ?_
      · intro wq hSw
        go_simp
        try first | with_reducible rfl | decide | rfl
      simp only [Act.put, List.setIfInBounds_toArray, List.set_cons_zero, List.set_cons_succ]
      refine wpAnyH_ready (rs := [2, 4]) (by as_aux_lemma => kernel_rfl) (by simp) ?_
      refine AllReadyH.cons (o := { dst := some 8, op := Op.call { callee := Callee.value (Operand.func 30), args := #[Operand.tmp 7], argTypes := #[3] }, type := 9, pos := "ref.go:43", after := #[{ on := 1, ground := Ground.data }], guard := none }) rfl (fun K2 hK => ?_) (AllReadyH.cons (o := { dst := some 10, op := Op.buildSlice 55 4 #[(0, Operand.const (Value.string { data := #[115, 117, 98, 109, 105, 116] })), (1, Operand.const (Value.string { data := #[99, 97, 110, 99, 101, 108] })), (2, Operand.const (Value.string { data := #[112, 111, 108, 108] })), (3, Operand.const (Value.string { data := #[118, 105, 101, 119] }))], type := 55, pos := "ref.go:43", after := #[], guard := none }) rfl (fun K2 hK => ?_) AllReadyH.nil)
      · go_simp
        go_at_call 30
        refine (decimal_nn t HTT.out WD).mono ?_
        rintro e1 u1 ⟨rfl, hb1⟩
        have HK1 : Hid (Bl RB [.int .i64 2, .int .i64 cd, .int .i64 t, .int .i64 i, .int .i64 c, .bool ask, .int .i64 r0, .int .i64 r1, .int .i64 r2, .int .i64 r3, .int .i64 r4, .int .i64 r5, .slice A L.length cap] u1 ∧ Below w.heap.size w u1) := Lib.hid ⟨HB0.out.1.below hb1, Below.step HB0.out.2 hb1⟩
        clear hb1
        refine hK.out _ _ (HK1.out.1) (fun _ => ?_)
        clear hK K2
        try simp only [Act.put, List.setIfInBounds_toArray, List.set_cons_zero, List.set_cons_succ]
        refine wpAnyH_take (i := 3) (oi := { dst := some 9, op := Op.binOp BinOp.add 9 (Operand.tmp 8) (Operand.const (Value.string { data := #[32] })) 9, type := 9, pos := "ref.go:43", after := #[{ on := 2, ground := Ground.data }], guard := none }) (v := .string (Bs (dcl t.toNat) ++ ⟨#[32]⟩)) rfl (by as_aux_lemma => kernel_rfl) (by as_aux_lemma => kernel_rfl) (by as_aux_lemma => kernel_rfl) (fun _ _ _ h => h) (Or.inl ⟨by rfl, ?_⟩) (by assumption) ?_
        · intro wq hSw
          obtain ⟨hsT, hsU⟩ := HST.out
          go_simp
          try first | with_reducible rfl | omega | rw [if_neg (by omega)] | (simp only [ByteArray.size_append, Bs_size]; omega)
        simp only [Act.put, List.setIfInBounds_toArray, List.set_cons_zero, List.set_cons_succ]
        refine wpAnyH_ready (rs := [4]) (by as_aux_lemma => kernel_rfl) (by simp) ?_
        refine AllReadyH.cons (o := { dst := some 10, op := Op.buildSlice 55 4 #[(0, Operand.const (Value.string { data := #[115, 117, 98, 109, 105, 116] })), (1, Operand.const (Value.string { data := #[99, 97, 110, 99, 101, 108] })), (2, Operand.const (Value.string { data := #[112, 111, 108, 108] })), (3, Operand.const (Value.string { data := #[118, 105, 101, 119] }))], type := 55, pos := "ref.go:43", after := #[], guard := none }) rfl (fun K2 hK => ?_) AllReadyH.nil
        have gb2 : Below u1.heap.size u1 (u1.alloc (.cells (List.toArray [.string ⟨#[115, 117, 98, 109, 105, 116]⟩, .string ⟨#[99, 97, 110, 99, 101, 108]⟩, .string ⟨#[112, 111, 108, 108]⟩, .string ⟨#[118, 105, 101, 119]⟩]) 9)) := by go_grown
        have HK2 : Hid (Bl RB [.int .i64 2, .int .i64 cd, .int .i64 t, .int .i64 i, .int .i64 c, .bool ask, .int .i64 r0, .int .i64 r1, .int .i64 r2, .int .i64 r3, .int .i64 r4, .int .i64 r5, .slice A L.length cap] (u1.alloc (.cells (List.toArray [.string ⟨#[115, 117, 98, 109, 105, 116]⟩, .string ⟨#[99, 97, 110, 99, 101, 108]⟩, .string ⟨#[112, 111, 108, 108]⟩, .string ⟨#[118, 105, 101, 119]⟩]) 9)) ∧ Below w.heap.size w (u1.alloc (.cells (List.toArray [.string ⟨#[115, 117, 98, 109, 105, 116]⟩, .string ⟨#[99, 97, 110, 99, 101, 108]⟩, .string ⟨#[112, 111, 108, 108]⟩, .string ⟨#[118, 105, 101, 119]⟩]) 9))) := Lib.hid ⟨HK1.out.1.below gb2, Below.step HK1.out.2 gb2⟩
        have HV2 := Lib.hid (Bl.new u1 [.string ⟨#[115, 117, 98, 109, 105, 116]⟩, .string ⟨#[99, 97, 110, 99, 101, 108]⟩, .string ⟨#[112, 111, 108, 108]⟩, .string ⟨#[118, 105, 101, 119]⟩] 9)
        clear gb2
        go_simp
        refine hK.out _ _ (HK2.out.1) (fun _ => ?_)
        clear hK K2
        try simp only [Act.put, List.setIfInBounds_toArray, List.set_cons_zero, List.set_cons_succ]
        refine wpAnyH_take (i := 8) (oi := { dst := some 14, op := Op.indexAddr 55 (Operand.tmp 10) (Operand.tmp 13), type := 0, pos := "ref.go:43", after := #[{ on := 4, ground := Ground.data }, { on := 7, ground := Ground.data }], guard := none }) (v := .pointer (some ⟨u1.heap.size, 1, none⟩)) rfl (by as_aux_lemma => kernel_rfl) (by as_aux_lemma => kernel_rfl) (by as_aux_lemma => kernel_rfl) (fun _ _ _ h => h) (Or.inl ⟨by rfl, ?_⟩) (by assumption) ?_
        · intro wq hSw
          go_simp
          try with_reducible rfl
        simp only [Act.put, List.setIfInBounds_toArray, List.set_cons_zero, List.set_cons_succ]
        refine wpAnyH_ready (rs := [9]) (by as_aux_lemma => kernel_rfl) (by simp) ?_
        refine AllReadyH.cons (o := { dst := some 15, op := Op.load 9 (Operand.tmp 14), type := 9, pos := "ref.go:43", after := #[{ on := 8, ground := Ground.data }], guard := none }) rfl (fun K2 hK => ?_) AllReadyH.nil
        have xl := HV2.out.cell 1 _ rfl
        go_simp
        clear xl
        refine hK.out _ _ (HK2.out.1) (fun _ => ?_)
        clear hK K2
        try simp only [Act.put, List.setIfInBounds_toArray, List.set_cons_zero, List.set_cons_succ]
        refine wpAnyH_take (i := 10) (oi := { dst := some 16, op := Op.binOp BinOp.add 9 (Operand.tmp 9) (Operand.tmp 15) 9, type := 9, pos := "ref.go:43", after := #[{ on := 3, ground := Ground.data }, { on := 9, ground := Ground.data }], guard := none }) (v := .string (Bs (dcl t.toNat) ++ ⟨#[32]⟩ ++ ⟨#[99, 97, 110, 99, 101, 108]⟩)) rfl (by as_aux_lemma => kernel_rfl) (by as_aux_lemma => kernel_rfl) (by as_aux_lemma => kernel_rfl) (fun _ _ _ h => h) (Or.inl ⟨by rfl, ?_⟩) (by assumption) ?_
        · intro wq hSw
          obtain ⟨hsT, hsU⟩ := HST.out
          have e9 : (Bs (dcl t.toNat) ++ (⟨#[32]⟩ : ByteArray)).size = (dcl t.toNat).length + 1 := by rw [ByteArray.size_append, Bs_size]; rfl
          go_simp
          try first | with_reducible rfl | omega | rw [if_neg (by omega)] | (simp only [ByteArray.size_append, Bs_size]; omega)
        simp only [Act.put, List.setIfInBounds_toArray, List.set_cons_zero, List.set_cons_succ]
        refine wpAnyH_take (i := 11) (oi := { dst := some 3, op := Op.assign (Operand.tmp 16), type := 9, pos := "ref.go:43", after := #[{ on := 10, ground := Ground.data }, { on := 2, ground := Ground.chain }, { on := 0, ground := Ground.phase }, { on := 1, ground := Ground.phase }, { on := 2, ground := Ground.phase }, { on := 3, ground := Ground.phase }, { on := 4, ground := Ground.phase }, { on := 5, ground := Ground.phase }, { on := 6, ground := Ground.phase }, { on := 7, ground := Ground.phase }, { on := 8, ground := Ground.phase }, { on := 9, ground := Ground.phase }, { on := 10, ground := Ground.phase }], guard := none }) (v := .string (Bs (dcl t.toNat) ++ ⟨#[32]⟩ ++ ⟨#[99, 97, 110, 99, 101, 108]⟩)) rfl (by as_aux_lemma => kernel_rfl) (by as_aux_lemma => kernel_rfl) (by as_aux_lemma => kernel_rfl) (fun _ _ _ h => h) (Or.inl ⟨by rfl, ?_⟩) (by assumption) ?_
        · intro wq hSw
          go_simp
          try with_reducible rfl
        simp only [Act.put, List.setIfInBounds_toArray, List.set_cons_zero, List.set_cons_succ]
        refine wpAnyH_done (by as_aux_lemma => kernel_rfl) ?_ _
        go_wp2_with fail
        go_meet
        case rel => exact ⟨rel_2 _, Lib.hid HK2.out⟩
      · have gb3 : Below WD.heap.size WD (WD.alloc (.cells (List.toArray [.string ⟨#[115, 117, 98, 109, 105, 116]⟩, .string ⟨#[99, 97, 110, 99, 101, 108]⟩, .string ⟨#[112, 111, 108, 108]⟩, .string ⟨#[118, 105, 101, 119]⟩]) 9)) := by go_grown
        have HK3 : Hid (Bl RB [.int .i64 2, .int .i64 cd, .int .i64 t, .int .i64 i, .int .i64 c, .bool ask, .int .i64 r0, .int .i64 r1, .int .i64 r2, .int .i64 r3, .int .i64 r4, .int .i64 r5, .slice A L.length cap] (WD.alloc (.cells (List.toArray [.string ⟨#[115, 117, 98, 109, 105, 116]⟩, .string ⟨#[99, 97, 110, 99, 101, 108]⟩, .string ⟨#[112, 111, 108, 108]⟩, .string ⟨#[118, 105, 101, 119]⟩]) 9)) ∧ Below w.heap.size w (WD.alloc (.cells (List.toArray [.string ⟨#[115, 117, 98, 109, 105, 116]⟩, .string ⟨#[99, 97, 110, 99, 101, 108]⟩, .string ⟨#[112, 111, 108, 108]⟩, .string ⟨#[118, 105, 101, 119]⟩]) 9))) := Lib.hid ⟨HB0.out.1.below gb3, Below.step HB0.out.2 gb3⟩
        have HV3 := Lib.hid (Bl.new WD [.string ⟨#[115, 117, 98, 109, 105, 116]⟩, .string ⟨#[99, 97, 110, 99, 101, 108]⟩, .string ⟨#[112, 111, 108, 108]⟩, .string ⟨#[118, 105, 101, 119]⟩] 9)
        clear gb3
        go_simp
        refine hK.out _ _ (HK3.out.1) (fun _ => ?_)
        clear hK K2
        try simp only [Act.put, List.setIfInBounds_toArray, List.set_cons_zero, List.set_cons_succ]
        refine wpAnyH_take (i := 8) (oi := { dst := some 14, op := Op.indexAddr 55 (Operand.tmp 10) (Operand.tmp 13), type := 0, pos := "ref.go:43", after := #[{ on := 4, ground := Ground.data }, { on := 7, ground := Ground.data }], guard := none }) (v := .pointer (some ⟨WD.heap.size, 1, none⟩)) rfl (by as_aux_lemma => kernel_rfl) (by as_aux_lemma => kernel_rfl) (by as_aux_lemma => kernel_rfl) (fun _ _ _ h => h) (Or.inl ⟨by rfl, ?_⟩) (by assumption) ?_
        · intro wq hSw
          go_simp
          try with_reducible rfl
        simp only [Act.put, List.setIfInBounds_toArray, List.set_cons_zero, List.set_cons_succ]
        refine wpAnyH_ready (rs := [2, 9]) (by as_aux_lemma => kernel_rfl) (by simp) ?_
        refine AllReadyH.cons (o := { dst := some 8, op := Op.call { callee := Callee.value (Operand.func 30), args := #[Operand.tmp 7], argTypes := #[3] }, type := 9, pos := "ref.go:43", after := #[{ on := 1, ground := Ground.data }], guard := none }) rfl (fun K2 hK => ?_) (AllReadyH.cons (o := { dst := some 15, op := Op.load 9 (Operand.tmp 14), type := 9, pos := "ref.go:43", after := #[{ on := 8, ground := Ground.data }], guard := none }) rfl (fun K2 hK => ?_) AllReadyH.nil)
        · go_simp
          go_at_call 30
          refine (decimal_nn t HTT.out (WD.alloc (.cells (List.toArray [.string ⟨#[115, 117, 98, 109, 105, 116]⟩, .string ⟨#[99, 97, 110, 99, 101, 108]⟩, .string ⟨#[112, 111, 108, 108]⟩, .string ⟨#[118, 105, 101, 119]⟩]) 9))).mono ?_
          rintro e4 u4 ⟨rfl, hb4⟩
          have HK4 : Hid (Bl RB [.int .i64 2, .int .i64 cd, .int .i64 t, .int .i64 i, .int .i64 c, .bool ask, .int .i64 r0, .int .i64 r1, .int .i64 r2, .int .i64 r3, .int .i64 r4, .int .i64 r5, .slice A L.length cap] u4 ∧ Below w.heap.size w u4) := Lib.hid ⟨HK3.out.1.below hb4, Below.step HK3.out.2 hb4⟩
          have HV4 := Lib.hid (HV3.out.below hb4)
          clear hb4
          refine hK.out _ _ (HK4.out.1) (fun _ => ?_)
          clear hK K2
          try simp only [Act.put, List.setIfInBounds_toArray, List.set_cons_zero, List.set_cons_succ]
          refine wpAnyH_take (i := 3) (oi := { dst := some 9, op := Op.binOp BinOp.add 9 (Operand.tmp 8) (Operand.const (Value.string { data := #[32] })) 9, type := 9, pos := "ref.go:43", after := #[{ on := 2, ground := Ground.data }], guard := none }) (v := .string (Bs (dcl t.toNat) ++ ⟨#[32]⟩)) rfl (by as_aux_lemma => kernel_rfl) (by as_aux_lemma => kernel_rfl) (by as_aux_lemma => kernel_rfl) (fun _ _ _ h => h) (Or.inl ⟨by rfl, ?_⟩) (by assumption) ?_
          · intro wq hSw
            obtain ⟨hsT, hsU⟩ := HST.out
            go_simp
            try first | with_reducible rfl | omega | rw [if_neg (by omega)] | (simp only [ByteArray.size_append, Bs_size]; omega)
          simp only [Act.put, List.setIfInBounds_toArray, List.set_cons_zero, List.set_cons_succ]
          refine wpAnyH_ready (rs := [9]) (by as_aux_lemma => kernel_rfl) (by simp) ?_
          refine AllReadyH.cons (o := { dst := some 15, op := Op.load 9 (Operand.tmp 14), type := 9, pos := "ref.go:43", after := #[{ on := 8, ground := Ground.data }], guard := none }) rfl (fun K2 hK => ?_) AllReadyH.nil
          have xl := HV4.out.cell 1 _ rfl
          go_simp
          clear xl
          refine hK.out _ _ (HK4.out.1) (fun _ => ?_)
          clear hK K2
          try simp only [Act.put, List.setIfInBounds_toArray, List.set_cons_zero, List.set_cons_succ]
          refine wpAnyH_take (i := 10) (oi := { dst := some 16, op := Op.binOp BinOp.add 9 (Operand.tmp 9) (Operand.tmp 15) 9, type := 9, pos := "ref.go:43", after := #[{ on := 3, ground := Ground.data }, { on := 9, ground := Ground.data }], guard := none }) (v := .string (Bs (dcl t.toNat) ++ ⟨#[32]⟩ ++ ⟨#[99, 97, 110, 99, 101, 108]⟩)) rfl (by as_aux_lemma => kernel_rfl) (by as_aux_lemma => kernel_rfl) (by as_aux_lemma => kernel_rfl) (fun _ _ _ h => h) (Or.inl ⟨by rfl, ?_⟩) (by assumption) ?_
          · intro wq hSw
            obtain ⟨hsT, hsU⟩ := HST.out
            have e9 : (Bs (dcl t.toNat) ++ (⟨#[32]⟩ : ByteArray)).size = (dcl t.toNat).length + 1 := by rw [ByteArray.size_append, Bs_size]; rfl
            go_simp
            try first | with_reducible rfl | omega | rw [if_neg (by omega)] | (simp only [ByteArray.size_append, Bs_size]; omega)
          simp only [Act.put, List.setIfInBounds_toArray, List.set_cons_zero, List.set_cons_succ]
          refine wpAnyH_take (i := 11) (oi := { dst := some 3, op := Op.assign (Operand.tmp 16), type := 9, pos := "ref.go:43", after := #[{ on := 10, ground := Ground.data }, { on := 2, ground := Ground.chain }, { on := 0, ground := Ground.phase }, { on := 1, ground := Ground.phase }, { on := 2, ground := Ground.phase }, { on := 3, ground := Ground.phase }, { on := 4, ground := Ground.phase }, { on := 5, ground := Ground.phase }, { on := 6, ground := Ground.phase }, { on := 7, ground := Ground.phase }, { on := 8, ground := Ground.phase }, { on := 9, ground := Ground.phase }, { on := 10, ground := Ground.phase }], guard := none }) (v := .string (Bs (dcl t.toNat) ++ ⟨#[32]⟩ ++ ⟨#[99, 97, 110, 99, 101, 108]⟩)) rfl (by as_aux_lemma => kernel_rfl) (by as_aux_lemma => kernel_rfl) (by as_aux_lemma => kernel_rfl) (fun _ _ _ h => h) (Or.inl ⟨by rfl, ?_⟩) (by assumption) ?_
          · intro wq hSw
            go_simp
            try with_reducible rfl
          simp only [Act.put, List.setIfInBounds_toArray, List.set_cons_zero, List.set_cons_succ]
          refine wpAnyH_done (by as_aux_lemma => kernel_rfl) ?_ _
          go_wp2_with fail
          go_meet
          case rel => exact ⟨rel_2 _, Lib.hid HK4.out⟩
        · have xl := HV3.out.cell 1 _ rfl
          go_simp
          clear xl
          refine hK.out _ _ (HK3.out.1) (fun _ => ?_)
          clear hK K2
          try simp only [Act.put, List.setIfInBounds_toArray, List.set_cons_zero, List.set_cons_succ]
          refine wpAnyH_ready (rs := [2]) (by as_aux_lemma => kernel_rfl) (by simp) ?_
          refine AllReadyH.cons (o := { dst := some 8, op := Op.call { callee := Callee.value (Operand.func 30), args := #[Operand.tmp 7], argTypes := #[3] }, type := 9, pos := "ref.go:43", after := #[{ on := 1, ground := Ground.data }], guard := none }) rfl (fun K2 hK => ?_) AllReadyH.nil
          go_simp
          go_at_call 30
          refine (decimal_nn t HTT.out (WD.alloc (.cells (List.toArray [.string ⟨#[115, 117, 98, 109, 105, 116]⟩, .string ⟨#[99, 97, 110, 99, 101, 108]⟩, .string ⟨#[112, 111, 108, 108]⟩, .string ⟨#[118, 105, 101, 119]⟩]) 9))).mono ?_
          rintro e5 u5 ⟨rfl, hb5⟩
          have HK5 : Hid (Bl RB [.int .i64 2, .int .i64 cd, .int .i64 t, .int .i64 i, .int .i64 c, .bool ask, .int .i64 r0, .int .i64 r1, .int .i64 r2, .int .i64 r3, .int .i64 r4, .int .i64 r5, .slice A L.length cap] u5 ∧ Below w.heap.size w u5) := Lib.hid ⟨HK3.out.1.below hb5, Below.step HK3.out.2 hb5⟩
          clear hb5
          refine hK.out _ _ (HK5.out.1) (fun _ => ?_)
          clear hK K2
          try simp only [Act.put, List.setIfInBounds_toArray, List.set_cons_zero, List.set_cons_succ]
          refine wpAnyH_take (i := 3) (oi := { dst := some 9, op := Op.binOp BinOp.add 9 (Operand.tmp 8) (Operand.const (Value.string { data := #[32] })) 9, type := 9, pos := "ref.go:43", after := #[{ on := 2, ground := Ground.data }], guard := none }) (v := .string (Bs (dcl t.toNat) ++ ⟨#[32]⟩)) rfl (by as_aux_lemma => kernel_rfl) (by as_aux_lemma => kernel_rfl) (by as_aux_lemma => kernel_rfl) (fun _ _ _ h => h) (Or.inl ⟨by rfl, ?_⟩) (by assumption) ?_
          · intro wq hSw
            obtain ⟨hsT, hsU⟩ := HST.out
            go_simp
            try first | with_reducible rfl | omega | rw [if_neg (by omega)] | (simp only [ByteArray.size_append, Bs_size]; omega)
          simp only [Act.put, List.setIfInBounds_toArray, List.set_cons_zero, List.set_cons_succ]
          refine wpAnyH_take (i := 10) (oi := { dst := some 16, op := Op.binOp BinOp.add 9 (Operand.tmp 9) (Operand.tmp 15) 9, type := 9, pos := "ref.go:43", after := #[{ on := 3, ground := Ground.data }, { on := 9, ground := Ground.data }], guard := none }) (v := .string (Bs (dcl t.toNat) ++ ⟨#[32]⟩ ++ ⟨#[99, 97, 110, 99, 101, 108]⟩)) rfl (by as_aux_lemma => kernel_rfl) (by as_aux_lemma => kernel_rfl) (by as_aux_lemma => kernel_rfl) (fun _ _ _ h => h) (Or.inl ⟨by rfl, ?_⟩) (by assumption) ?_
          · intro wq hSw
            obtain ⟨hsT, hsU⟩ := HST.out
            have e9 : (Bs (dcl t.toNat) ++ (⟨#[32]⟩ : ByteArray)).size = (dcl t.toNat).length + 1 := by rw [ByteArray.size_append, Bs_size]; rfl
            go_simp
            try first | with_reducible rfl | omega | rw [if_neg (by omega)] | (simp only [ByteArray.size_append, Bs_size]; omega)
          simp only [Act.put, List.setIfInBounds_toArray, List.set_cons_zero, List.set_cons_succ]
          refine wpAnyH_take (i := 11) (oi := { dst := some 3, op := Op.assign (Operand.tmp 16), type := 9, pos := "ref.go:43", after := #[{ on := 10, ground := Ground.data }, { on := 2, ground := Ground.chain }, { on := 0, ground := Ground.phase }, { on := 1, ground := Ground.phase }, { on := 2, ground := Ground.phase }, { on := 3, ground := Ground.phase }, { on := 4, ground := Ground.phase }, { on := 5, ground := Ground.phase }, { on := 6, ground := Ground.phase }, { on := 7, ground := Ground.phase }, { on := 8, ground := Ground.phase }, { on := 9, ground := Ground.phase }, { on := 10, ground := Ground.phase }], guard := none }) (v := .string (Bs (dcl t.toNat) ++ ⟨#[32]⟩ ++ ⟨#[99, 97, 110, 99, 101, 108]⟩)) rfl (by as_aux_lemma => kernel_rfl) (by as_aux_lemma => kernel_rfl) (by as_aux_lemma => kernel_rfl) (fun _ _ _ h => h) (Or.inl ⟨by rfl, ?_⟩) (by assumption) ?_
          · intro wq hSw
            go_simp
            try with_reducible rfl
          simp only [Act.put, List.setIfInBounds_toArray, List.set_cons_zero, List.set_cons_succ]
          refine wpAnyH_done (by as_aux_lemma => kernel_rfl) ?_ _
          go_wp2_with fail
          go_meet
          case rel => exact ⟨rel_2 _, Lib.hid HK5.out⟩
    · skip
      have q0 : Bl RB [.int .i64 3, .int .i64 cd, .int .i64 t, .int .i64 i, .int .i64 c, .bool ask, .int .i64 r0, .int .i64 r1, .int .i64 r2, .int .i64 r3, .int .i64 r4, .int .i64 r5, .slice A L.length cap] W := HB.out.1
      refine wp_region_held_drew (S := fun w' => Bl RB [.int .i64 3, .int .i64 cd, .int .i64 t, .int .i64 i, .int .i64 c, .bool ask, .int .i64 r0, .int .i64 r1, .int .i64 r2, .int .i64 r3, .int .i64 r4, .int .i64 r5, .slice A L.length cap] w') (by kernel_rfl) (q0.below ((Below.refl _ _).drew)) (fun hHeld => ?_)
      have gd : Below W.heap.size W W.drew := (Below.refl _ _).drew
      have HB0 : Hid (Bl RB [.int .i64 3, .int .i64 cd, .int .i64 t, .int .i64 i, .int .i64 c, .bool ask, .int .i64 r0, .int .i64 r1, .int .i64 r2, .int .i64 r3, .int .i64 r4, .int .i64 r5, .slice A L.length cap] W.drew ∧ Below w.heap.size w W.drew) := Lib.hid ⟨HB.out.1.below gd, Below.step HB.out.2 gd⟩
      clear gd q0
      generalize W.drew = WD at HB0 hHeld ⊢
      refine wpAnyH_take (i := 0) (oi := { dst := some 6, op := Op.fieldAddr 32 (Operand.tmp 1) 2, type := 0, pos := "ref.go:43", after := #[], guard := none }) (v := .pointer (some ⟨RB, 2, none⟩)) rfl (by as_aux_lemma => kernel_rfl) (by as_aux_lemma => kernel_rfl) (by as_aux_lemma => kernel_rfl) (fun _ _ _ h => h) (Or.inl ⟨by rfl, ?_⟩) (by assumption) ?_
      · intro wq hSw
        go_simp
        try with_reducible rfl
      simp only [Act.put, List.setIfInBounds_toArray, List.set_cons_zero, List.set_cons_succ]
      refine wpAnyH_take (i := 1) (oi := { dst := some 7, op := Op.load 3 (Operand.tmp 6), type := 3, pos := "ref.go:43", after := #[{ on := 0, ground := Ground.data }], guard := none }) (v := .int .i64 t) rfl (by as_aux_lemma => kernel_rfl) (by as_aux_lemma => kernel_rfl) (by as_aux_lemma => kernel_rfl) (fun _ _ _ h => h) (Or.inl ⟨by rfl, ?_⟩) (by assumption) ?_
      · intro wq hSw
        have y2 := hSw.cell 2 _ rfl
        go_simp
        try with_reducible rfl
      simp only [Act.put, List.setIfInBounds_toArray, List.set_cons_zero, List.set_cons_succ]
      refine wpAnyH_take (i := 5) (oi := { dst := some 11, op := Op.fieldAddr 32 (Operand.tmp 1) 0, type := 0, pos := "ref.go:43", after := #[], guard := none }) (v := .pointer (some ⟨RB, 0, none⟩)) rfl (by as_aux_lemma => kernel_rfl) (by as_aux_lemma => kernel_rfl) (by as_aux_lemma => kernel_rfl) (fun _ _ _ h => h) (Or.inl ⟨by rfl, ?_⟩) (by assumption) ?_
      · intro wq hSw
        go_simp
        try with_reducible rfl
      simp only [Act.put, List.setIfInBounds_toArray, List.set_cons_zero, List.set_cons_succ]
      refine wpAnyH_take (i := 6) (oi := { dst := some 12, op := Op.load 3 (Operand.tmp 11), type := 3, pos := "ref.go:43", after := #[{ on := 5, ground := Ground.data }], guard := none }) (v := .int .i64 3) rfl (by as_aux_lemma => kernel_rfl) (by as_aux_lemma => kernel_rfl) (by as_aux_lemma => kernel_rfl) (fun _ _ _ h => h) (Or.inl ⟨by rfl, ?_⟩) (by assumption) ?_
      · intro wq hSw
        have y0 := hSw.cell 0 _ rfl
        go_simp
        try with_reducible rfl
      simp only [Act.put, List.setIfInBounds_toArray, List.set_cons_zero, List.set_cons_succ]
      refine wpAnyH_take (i := 7) (oi := { dst := some 13, op := Op.binOp BinOp.sub 3 (Operand.tmp 12) (Operand.const (Value.int IntKind.i64 1)) 3, type := 3, pos := "ref.go:43", after := #[{ on := 6, ground := Ground.data }], guard := none }) (v := .int .i64 2) rfl (by as_aux_lemma => kernel_rfl) (by as_aux_lemma => kernel_rfl) (by as_aux_lemma => kernel_rfl) (fun _ _ _ h => h) (Or.inl ⟨by rfl, ?_⟩) (by assumption) ?_
      · intro wq hSw
        go_simp
        try first | with_reducible rfl | decide | rfl
      simp only [Act.put, List.setIfInBounds_toArray, List.set_cons_zero, List.set_cons_succ]
      refine wpAnyH_ready (rs := [2, 4]) (by as_aux_lemma => kernel_rfl) (by simp) ?_
      refine AllReadyH.cons (o := { dst := some 8, op := Op.call { callee := Callee.value (Operand.func 30), args := #[Operand.tmp 7], argTypes := #[3] }, type := 9, pos := "ref.go:43", after := #[{ on := 1, ground := Ground.data }], guard := none }) rfl (fun K2 hK => ?_) (AllReadyH.cons (o := { dst := some 10, op := Op.buildSlice 55 4 #[(0, Operand.const (Value.string { data := #[115, 117, 98, 109, 105, 116] })), (1, Operand.const (Value.string { data := #[99, 97, 110, 99, 101, 108] })), (2, Operand.const (Value.string { data := #[112, 111, 108, 108] })), (3, Operand.const (Value.string { data := #[118, 105, 101, 119] }))], type := 55, pos := "ref.go:43", after := #[], guard := none }) rfl (fun K2 hK => ?_) AllReadyH.nil)
      · go_simp
        go_at_call 30
        refine (decimal_nn t HTT.out WD).mono ?_
        rintro e1 u1 ⟨rfl, hb1⟩
        have HK1 : Hid (Bl RB [.int .i64 3, .int .i64 cd, .int .i64 t, .int .i64 i, .int .i64 c, .bool ask, .int .i64 r0, .int .i64 r1, .int .i64 r2, .int .i64 r3, .int .i64 r4, .int .i64 r5, .slice A L.length cap] u1 ∧ Below w.heap.size w u1) := Lib.hid ⟨HB0.out.1.below hb1, Below.step HB0.out.2 hb1⟩
        clear hb1
        refine hK.out _ _ (HK1.out.1) (fun _ => ?_)
        clear hK K2
        try simp only [Act.put, List.setIfInBounds_toArray, List.set_cons_zero, List.set_cons_succ]
        refine wpAnyH_take (i := 3) (oi := { dst := some 9, op := Op.binOp BinOp.add 9 (Operand.tmp 8) (Operand.const (Value.string { data := #[32] })) 9, type := 9, pos := "ref.go:43", after := #[{ on := 2, ground := Ground.data }], guard := none }) (v := .string (Bs (dcl t.toNat) ++ ⟨#[32]⟩)) rfl (by as_aux_lemma => kernel_rfl) (by as_aux_lemma => kernel_rfl) (by as_aux_lemma => kernel_rfl) (fun _ _ _ h => h) (Or.inl ⟨by rfl, ?_⟩) (by assumption) ?_
        · intro wq hSw
          obtain ⟨hsT, hsU⟩ := HST.out
          go_simp
          try first | with_reducible rfl | omega | rw [if_neg (by omega)] | (simp only [ByteArray.size_append, Bs_size]; omega)
        simp only [Act.put, List.setIfInBounds_toArray, List.set_cons_zero, List.set_cons_succ]
        refine wpAnyH_ready (rs := [4]) (by as_aux_lemma => kernel_rfl) (by simp) ?_
        refine AllReadyH.cons (o := { dst := some 10, op := Op.buildSlice 55 4 #[(0, Operand.const (Value.string { data := #[115, 117, 98, 109, 105, 116] })), (1, Operand.const (Value.string { data := #[99, 97, 110, 99, 101, 108] })), (2, Operand.const (Value.string { data := #[112, 111, 108, 108] })), (3, Operand.const (Value.string { data := #[118, 105, 101, 119] }))], type := 55, pos := "ref.go:43", after := #[], guard := none }) rfl (fun K2 hK => ?_) AllReadyH.nil
        have gb2 : Below u1.heap.size u1 (u1.alloc (.cells (List.toArray [.string ⟨#[115, 117, 98, 109, 105, 116]⟩, .string ⟨#[99, 97, 110, 99, 101, 108]⟩, .string ⟨#[112, 111, 108, 108]⟩, .string ⟨#[118, 105, 101, 119]⟩]) 9)) := by go_grown
        have HK2 : Hid (Bl RB [.int .i64 3, .int .i64 cd, .int .i64 t, .int .i64 i, .int .i64 c, .bool ask, .int .i64 r0, .int .i64 r1, .int .i64 r2, .int .i64 r3, .int .i64 r4, .int .i64 r5, .slice A L.length cap] (u1.alloc (.cells (List.toArray [.string ⟨#[115, 117, 98, 109, 105, 116]⟩, .string ⟨#[99, 97, 110, 99, 101, 108]⟩, .string ⟨#[112, 111, 108, 108]⟩, .string ⟨#[118, 105, 101, 119]⟩]) 9)) ∧ Below w.heap.size w (u1.alloc (.cells (List.toArray [.string ⟨#[115, 117, 98, 109, 105, 116]⟩, .string ⟨#[99, 97, 110, 99, 101, 108]⟩, .string ⟨#[112, 111, 108, 108]⟩, .string ⟨#[118, 105, 101, 119]⟩]) 9))) := Lib.hid ⟨HK1.out.1.below gb2, Below.step HK1.out.2 gb2⟩
        have HV2 := Lib.hid (Bl.new u1 [.string ⟨#[115, 117, 98, 109, 105, 116]⟩, .string ⟨#[99, 97, 110, 99, 101, 108]⟩, .string ⟨#[112, 111, 108, 108]⟩, .string ⟨#[118, 105, 101, 119]⟩] 9)
        clear gb2
        go_simp
        refine hK.out _ _ (HK2.out.1) (fun _ => ?_)
        clear hK K2
        try simp only [Act.put, List.setIfInBounds_toArray, List.set_cons_zero, List.set_cons_succ]
        refine wpAnyH_take (i := 8) (oi := { dst := some 14, op := Op.indexAddr 55 (Operand.tmp 10) (Operand.tmp 13), type := 0, pos := "ref.go:43", after := #[{ on := 4, ground := Ground.data }, { on := 7, ground := Ground.data }], guard := none }) (v := .pointer (some ⟨u1.heap.size, 2, none⟩)) rfl (by as_aux_lemma => kernel_rfl) (by as_aux_lemma => kernel_rfl) (by as_aux_lemma => kernel_rfl) (fun _ _ _ h => h) (Or.inl ⟨by rfl, ?_⟩) (by assumption) ?_
        · intro wq hSw
          go_simp
          try with_reducible rfl
        simp only [Act.put, List.setIfInBounds_toArray, List.set_cons_zero, List.set_cons_succ]
        refine wpAnyH_ready (rs := [9]) (by as_aux_lemma => kernel_rfl) (by simp) ?_
        refine AllReadyH.cons (o := { dst := some 15, op := Op.load 9 (Operand.tmp 14), type := 9, pos := "ref.go:43", after := #[{ on := 8, ground := Ground.data }], guard := none }) rfl (fun K2 hK => ?_) AllReadyH.nil
        have xl := HV2.out.cell 2 _ rfl
        go_simp
        clear xl
        refine hK.out _ _ (HK2.out.1) (fun _ => ?_)
        clear hK K2
        try simp only [Act.put, List.setIfInBounds_toArray, List.set_cons_zero, List.set_cons_succ]
        refine wpAnyH_take (i := 10) (oi := { dst := some 16, op := Op.binOp BinOp.add 9 (Operand.tmp 9) (Operand.tmp 15) 9, type := 9, pos := "ref.go:43", after := #[{ on := 3, ground := Ground.data }, { on := 9, ground := Ground.data }], guard := none }) (v := .string (Bs (dcl t.toNat) ++ ⟨#[32]⟩ ++ ⟨#[112, 111, 108, 108]⟩)) rfl (by as_aux_lemma => kernel_rfl) (by as_aux_lemma => kernel_rfl) (by as_aux_lemma => kernel_rfl) (fun _ _ _ h => h) (Or.inl ⟨by rfl, ?_⟩) (by assumption) ?_
        · intro wq hSw
          obtain ⟨hsT, hsU⟩ := HST.out
          have e9 : (Bs (dcl t.toNat) ++ (⟨#[32]⟩ : ByteArray)).size = (dcl t.toNat).length + 1 := by rw [ByteArray.size_append, Bs_size]; rfl
          go_simp
          try first | with_reducible rfl | omega | rw [if_neg (by omega)] | (simp only [ByteArray.size_append, Bs_size]; omega)
        simp only [Act.put, List.setIfInBounds_toArray, List.set_cons_zero, List.set_cons_succ]
        refine wpAnyH_take (i := 11) (oi := { dst := some 3, op := Op.assign (Operand.tmp 16), type := 9, pos := "ref.go:43", after := #[{ on := 10, ground := Ground.data }, { on := 2, ground := Ground.chain }, { on := 0, ground := Ground.phase }, { on := 1, ground := Ground.phase }, { on := 2, ground := Ground.phase }, { on := 3, ground := Ground.phase }, { on := 4, ground := Ground.phase }, { on := 5, ground := Ground.phase }, { on := 6, ground := Ground.phase }, { on := 7, ground := Ground.phase }, { on := 8, ground := Ground.phase }, { on := 9, ground := Ground.phase }, { on := 10, ground := Ground.phase }], guard := none }) (v := .string (Bs (dcl t.toNat) ++ ⟨#[32]⟩ ++ ⟨#[112, 111, 108, 108]⟩)) rfl (by as_aux_lemma => kernel_rfl) (by as_aux_lemma => kernel_rfl) (by as_aux_lemma => kernel_rfl) (fun _ _ _ h => h) (Or.inl ⟨by rfl, ?_⟩) (by assumption) ?_
        · intro wq hSw
          go_simp
          try with_reducible rfl
        simp only [Act.put, List.setIfInBounds_toArray, List.set_cons_zero, List.set_cons_succ]
        refine wpAnyH_done (by as_aux_lemma => kernel_rfl) ?_ _
        go_wp2_with fail
        go_meet
        case rel => exact ⟨rel_3 _, Lib.hid HK2.out⟩
      · have gb3 : Below WD.heap.size WD (WD.alloc (.cells (List.toArray [.string ⟨#[115, 117, 98, 109, 105, 116]⟩, .string ⟨#[99, 97, 110, 99, 101, 108]⟩, .string ⟨#[112, 111, 108, 108]⟩, .string ⟨#[118, 105, 101, 119]⟩]) 9)) := by go_grown
        have HK3 : Hid (Bl RB [.int .i64 3, .int .i64 cd, .int .i64 t, .int .i64 i, .int .i64 c, .bool ask, .int .i64 r0, .int .i64 r1, .int .i64 r2, .int .i64 r3, .int .i64 r4, .int .i64 r5, .slice A L.length cap] (WD.alloc (.cells (List.toArray [.string ⟨#[115, 117, 98, 109, 105, 116]⟩, .string ⟨#[99, 97, 110, 99, 101, 108]⟩, .string ⟨#[112, 111, 108, 108]⟩, .string ⟨#[118, 105, 101, 119]⟩]) 9)) ∧ Below w.heap.size w (WD.alloc (.cells (List.toArray [.string ⟨#[115, 117, 98, 109, 105, 116]⟩, .string ⟨#[99, 97, 110, 99, 101, 108]⟩, .string ⟨#[112, 111, 108, 108]⟩, .string ⟨#[118, 105, 101, 119]⟩]) 9))) := Lib.hid ⟨HB0.out.1.below gb3, Below.step HB0.out.2 gb3⟩
        have HV3 := Lib.hid (Bl.new WD [.string ⟨#[115, 117, 98, 109, 105, 116]⟩, .string ⟨#[99, 97, 110, 99, 101, 108]⟩, .string ⟨#[112, 111, 108, 108]⟩, .string ⟨#[118, 105, 101, 119]⟩] 9)
        clear gb3
        go_simp
        refine hK.out _ _ (HK3.out.1) (fun _ => ?_)
        clear hK K2
        try simp only [Act.put, List.setIfInBounds_toArray, List.set_cons_zero, List.set_cons_succ]
        refine wpAnyH_take (i := 8) (oi := { dst := some 14, op := Op.indexAddr 55 (Operand.tmp 10) (Operand.tmp 13), type := 0, pos := "ref.go:43", after := #[{ on := 4, ground := Ground.data }, { on := 7, ground := Ground.data }], guard := none }) (v := .pointer (some ⟨WD.heap.size, 2, none⟩)) rfl (by as_aux_lemma => kernel_rfl) (by as_aux_lemma => kernel_rfl) (by as_aux_lemma => kernel_rfl) (fun _ _ _ h => h) (Or.inl ⟨by rfl, ?_⟩) (by assumption) ?_
        · intro wq hSw
          go_simp
          try with_reducible rfl
        simp only [Act.put, List.setIfInBounds_toArray, List.set_cons_zero, List.set_cons_succ]
        refine wpAnyH_ready (rs := [2, 9]) (by as_aux_lemma => kernel_rfl) (by simp) ?_
        refine AllReadyH.cons (o := { dst := some 8, op := Op.call { callee := Callee.value (Operand.func 30), args := #[Operand.tmp 7], argTypes := #[3] }, type := 9, pos := "ref.go:43", after := #[{ on := 1, ground := Ground.data }], guard := none }) rfl (fun K2 hK => ?_) (AllReadyH.cons (o := { dst := some 15, op := Op.load 9 (Operand.tmp 14), type := 9, pos := "ref.go:43", after := #[{ on := 8, ground := Ground.data }], guard := none }) rfl (fun K2 hK => ?_) AllReadyH.nil)
        · go_simp
          go_at_call 30
          refine (decimal_nn t HTT.out (WD.alloc (.cells (List.toArray [.string ⟨#[115, 117, 98, 109, 105, 116]⟩, .string ⟨#[99, 97, 110, 99, 101, 108]⟩, .string ⟨#[112, 111, 108, 108]⟩, .string ⟨#[118, 105, 101, 119]⟩]) 9))).mono ?_
          rintro e4 u4 ⟨rfl, hb4⟩
          have HK4 : Hid (Bl RB [.int .i64 3, .int .i64 cd, .int .i64 t, .int .i64 i, .int .i64 c, .bool ask, .int .i64 r0, .int .i64 r1, .int .i64 r2, .int .i64 r3, .int .i64 r4, .int .i64 r5, .slice A L.length cap] u4 ∧ Below w.heap.size w u4) := Lib.hid ⟨HK3.out.1.below hb4, Below.step HK3.out.2 hb4⟩
          have HV4 := Lib.hid (HV3.out.below hb4)
          clear hb4
          refine hK.out _ _ (HK4.out.1) (fun _ => ?_)
          clear hK K2
          try simp only [Act.put, List.setIfInBounds_toArray, List.set_cons_zero, List.set_cons_succ]
          refine wpAnyH_take (i := 3) (oi := { dst := some 9, op := Op.binOp BinOp.add 9 (Operand.tmp 8) (Operand.const (Value.string { data := #[32] })) 9, type := 9, pos := "ref.go:43", after := #[{ on := 2, ground := Ground.data }], guard := none }) (v := .string (Bs (dcl t.toNat) ++ ⟨#[32]⟩)) rfl (by as_aux_lemma => kernel_rfl) (by as_aux_lemma => kernel_rfl) (by as_aux_lemma => kernel_rfl) (fun _ _ _ h => h) (Or.inl ⟨by rfl, ?_⟩) (by assumption) ?_
          · intro wq hSw
            obtain ⟨hsT, hsU⟩ := HST.out
            go_simp
            try first | with_reducible rfl | omega | rw [if_neg (by omega)] | (simp only [ByteArray.size_append, Bs_size]; omega)
          simp only [Act.put, List.setIfInBounds_toArray, List.set_cons_zero, List.set_cons_succ]
          refine wpAnyH_ready (rs := [9]) (by as_aux_lemma => kernel_rfl) (by simp) ?_
          refine AllReadyH.cons (o := { dst := some 15, op := Op.load 9 (Operand.tmp 14), type := 9, pos := "ref.go:43", after := #[{ on := 8, ground := Ground.data }], guard := none }) rfl (fun K2 hK => ?_) AllReadyH.nil
          have xl := HV4.out.cell 2 _ rfl
          go_simp
          clear xl
          refine hK.out _ _ (HK4.out.1) (fun _ => ?_)
          clear hK K2
          try simp only [Act.put, List.setIfInBounds_toArray, List.set_cons_zero, List.set_cons_succ]
          refine wpAnyH_take (i := 10) (oi := { dst := some 16, op := Op.binOp BinOp.add 9 (Operand.tmp 9) (Operand.tmp 15) 9, type := 9, pos := "ref.go:43", after := #[{ on := 3, ground := Ground.data }, { on := 9, ground := Ground.data }], guard := none }) (v := .string (Bs (dcl t.toNat) ++ ⟨#[32]⟩ ++ ⟨#[112, 111, 108, 108]⟩)) rfl (by as_aux_lemma => kernel_rfl) (by as_aux_lemma => kernel_rfl) (by as_aux_lemma => kernel_rfl) (fun _ _ _ h => h) (Or.inl ⟨by rfl, ?_⟩) (by assumption) ?_
          · intro wq hSw
            obtain ⟨hsT, hsU⟩ := HST.out
            have e9 : (Bs (dcl t.toNat) ++ (⟨#[32]⟩ : ByteArray)).size = (dcl t.toNat).length + 1 := by rw [ByteArray.size_append, Bs_size]; rfl
            go_simp
            try first | with_reducible rfl | omega | rw [if_neg (by omega)] | (simp only [ByteArray.size_append, Bs_size]; omega)
          simp only [Act.put, List.setIfInBounds_toArray, List.set_cons_zero, List.set_cons_succ]
          refine wpAnyH_take (i := 11) (oi := { dst := some 3, op := Op.assign (Operand.tmp 16), type := 9, pos := "ref.go:43", after := #[{ on := 10, ground := Ground.data }, { on := 2, ground := Ground.chain }, { on := 0, ground := Ground.phase }, { on := 1, ground := Ground.phase }, { on := 2, ground := Ground.phase }, { on := 3, ground := Ground.phase }, { on := 4, ground := Ground.phase }, { on := 5, ground := Ground.phase }, { on := 6, ground := Ground.phase }, { on := 7, ground := Ground.phase }, { on := 8, ground := Ground.phase }, { on := 9, ground := Ground.phase }, { on := 10, ground := Ground.phase }], guard := none }) (v := .string (Bs (dcl t.toNat) ++ ⟨#[32]⟩ ++ ⟨#[112, 111, 108, 108]⟩)) rfl (by as_aux_lemma => kernel_rfl) (by as_aux_lemma => kernel_rfl) (by as_aux_lemma => kernel_rfl) (fun _ _ _ h => h) (Or.inl ⟨by rfl, ?_⟩) (by assumption) ?_
          · intro wq hSw
            go_simp
            try with_reducible rfl
          simp only [Act.put, List.setIfInBounds_toArray, List.set_cons_zero, List.set_cons_succ]
          refine wpAnyH_done (by as_aux_lemma => kernel_rfl) ?_ _
          go_wp2_with fail
          go_meet
          case rel => exact ⟨rel_3 _, Lib.hid HK4.out⟩
        · have xl := HV3.out.cell 2 _ rfl
          go_simp
          clear xl
          refine hK.out _ _ (HK3.out.1) (fun _ => ?_)
          clear hK K2
          try simp only [Act.put, List.setIfInBounds_toArray, List.set_cons_zero, List.set_cons_succ]
          refine wpAnyH_ready (rs := [2]) (by as_aux_lemma => kernel_rfl) (by simp) ?_
          refine AllReadyH.cons (o := { dst := some 8, op := Op.call { callee := Callee.value (Operand.func 30), args := #[Operand.tmp 7], argTypes := #[3] }, type := 9, pos := "ref.go:43", after := #[{ on := 1, ground := Ground.data }], guard := none }) rfl (fun K2 hK => ?_) AllReadyH.nil
          go_simp
          go_at_call 30
          refine (decimal_nn t HTT.out (WD.alloc (.cells (List.toArray [.string ⟨#[115, 117, 98, 109, 105, 116]⟩, .string ⟨#[99, 97, 110, 99, 101, 108]⟩, .string ⟨#[112, 111, 108, 108]⟩, .string ⟨#[118, 105, 101, 119]⟩]) 9))).mono ?_
          rintro e5 u5 ⟨rfl, hb5⟩
          have HK5 : Hid (Bl RB [.int .i64 3, .int .i64 cd, .int .i64 t, .int .i64 i, .int .i64 c, .bool ask, .int .i64 r0, .int .i64 r1, .int .i64 r2, .int .i64 r3, .int .i64 r4, .int .i64 r5, .slice A L.length cap] u5 ∧ Below w.heap.size w u5) := Lib.hid ⟨HK3.out.1.below hb5, Below.step HK3.out.2 hb5⟩
          clear hb5
          refine hK.out _ _ (HK5.out.1) (fun _ => ?_)
          clear hK K2
          try simp only [Act.put, List.setIfInBounds_toArray, List.set_cons_zero, List.set_cons_succ]
          refine wpAnyH_take (i := 3) (oi := { dst := some 9, op := Op.binOp BinOp.add 9 (Operand.tmp 8) (Operand.const (Value.string { data := #[32] })) 9, type := 9, pos := "ref.go:43", after := #[{ on := 2, ground := Ground.data }], guard := none }) (v := .string (Bs (dcl t.toNat) ++ ⟨#[32]⟩)) rfl (by as_aux_lemma => kernel_rfl) (by as_aux_lemma => kernel_rfl) (by as_aux_lemma => kernel_rfl) (fun _ _ _ h => h) (Or.inl ⟨by rfl, ?_⟩) (by assumption) ?_
          · intro wq hSw
            obtain ⟨hsT, hsU⟩ := HST.out
            go_simp
            try first | with_reducible rfl | omega | rw [if_neg (by omega)] | (simp only [ByteArray.size_append, Bs_size]; omega)
          simp only [Act.put, List.setIfInBounds_toArray, List.set_cons_zero, List.set_cons_succ]
          refine wpAnyH_take (i := 10) (oi := { dst := some 16, op := Op.binOp BinOp.add 9 (Operand.tmp 9) (Operand.tmp 15) 9, type := 9, pos := "ref.go:43", after := #[{ on := 3, ground := Ground.data }, { on := 9, ground := Ground.data }], guard := none }) (v := .string (Bs (dcl t.toNat) ++ ⟨#[32]⟩ ++ ⟨#[112, 111, 108, 108]⟩)) rfl (by as_aux_lemma => kernel_rfl) (by as_aux_lemma => kernel_rfl) (by as_aux_lemma => kernel_rfl) (fun _ _ _ h => h) (Or.inl ⟨by rfl, ?_⟩) (by assumption) ?_
          · intro wq hSw
            obtain ⟨hsT, hsU⟩ := HST.out
            have e9 : (Bs (dcl t.toNat) ++ (⟨#[32]⟩ : ByteArray)).size = (dcl t.toNat).length + 1 := by rw [ByteArray.size_append, Bs_size]; rfl
            go_simp
            try first | with_reducible rfl | omega | rw [if_neg (by omega)] | (simp only [ByteArray.size_append, Bs_size]; omega)
          simp only [Act.put, List.setIfInBounds_toArray, List.set_cons_zero, List.set_cons_succ]
          refine wpAnyH_take (i := 11) (oi := { dst := some 3, op := Op.assign (Operand.tmp 16), type := 9, pos := "ref.go:43", after := #[{ on := 10, ground := Ground.data }, { on := 2, ground := Ground.chain }, { on := 0, ground := Ground.phase }, { on := 1, ground := Ground.phase }, { on := 2, ground := Ground.phase }, { on := 3, ground := Ground.phase }, { on := 4, ground := Ground.phase }, { on := 5, ground := Ground.phase }, { on := 6, ground := Ground.phase }, { on := 7, ground := Ground.phase }, { on := 8, ground := Ground.phase }, { on := 9, ground := Ground.phase }, { on := 10, ground := Ground.phase }], guard := none }) (v := .string (Bs (dcl t.toNat) ++ ⟨#[32]⟩ ++ ⟨#[112, 111, 108, 108]⟩)) rfl (by as_aux_lemma => kernel_rfl) (by as_aux_lemma => kernel_rfl) (by as_aux_lemma => kernel_rfl) (fun _ _ _ h => h) (Or.inl ⟨by rfl, ?_⟩) (by assumption) ?_
          · intro wq hSw
            go_simp
            try with_reducible rfl
          simp only [Act.put, List.setIfInBounds_toArray, List.set_cons_zero, List.set_cons_succ]
          refine wpAnyH_done (by as_aux_lemma => kernel_rfl) ?_ _
          go_wp2_with fail
          go_meet
          case rel => exact ⟨rel_3 _, Lib.hid HK5.out⟩
    · skip
      have q0 : Bl RB [.int .i64 4, .int .i64 cd, .int .i64 t, .int .i64 i, .int .i64 c, .bool ask, .int .i64 r0, .int .i64 r1, .int .i64 r2, .int .i64 r3, .int .i64 r4, .int .i64 r5, .slice A L.length cap] W := HB.out.1
      refine wp_region_held_drew (S := fun w' => Bl RB [.int .i64 4, .int .i64 cd, .int .i64 t, .int .i64 i, .int .i64 c, .bool ask, .int .i64 r0, .int .i64 r1, .int .i64 r2, .int .i64 r3, .int .i64 r4, .int .i64 r5, .slice A L.length cap] w') (by kernel_rfl) (q0.below ((Below.refl _ _).drew)) (fun hHeld => ?_)
      have gd : Below W.heap.size W W.drew := (Below.refl _ _).drew
      have HB0 : Hid (Bl RB [.int .i64 4, .int .i64 cd, .int .i64 t, .int .i64 i, .int .i64 c, .bool ask, .int .i64 r0, .int .i64 r1, .int .i64 r2, .int .i64 r3, .int .i64 r4, .int .i64 r5, .slice A L.length cap] W.drew ∧ Below w.heap.size w W.drew) := Lib.hid ⟨HB.out.1.below gd, Below.step HB.out.2 gd⟩
      clear gd q0
      generalize W.drew = WD at HB0 hHeld ⊢
      refine wpAnyH_take (i := 0) (oi := { dst := some 6, op := Op.fieldAddr 32 (Operand.tmp 1) 2, type := 0, pos := "ref.go:43", after := #[], guard := none }) (v := .pointer (some ⟨RB, 2, none⟩)) rfl (by as_aux_lemma => kernel_rfl) (by as_aux_lemma => kernel_rfl) (by as_aux_lemma => kernel_rfl) (fun _ _ _ h => h) (Or.inl ⟨by rfl, ?_⟩) (by assumption) ?_
      · intro wq hSw
        go_simp
        try with_reducible rfl
      simp only [Act.put, List.setIfInBounds_toArray, List.set_cons_zero, List.set_cons_succ]
      refine wpAnyH_take (i := 1) (oi := { dst := some 7, op := Op.load 3 (Operand.tmp 6), type := 3, pos := "ref.go:43", after := #[{ on := 0, ground := Ground.data }], guard := none }) (v := .int .i64 t) rfl (by as_aux_lemma => kernel_rfl) (by as_aux_lemma => kernel_rfl) (by as_aux_lemma => kernel_rfl) (fun _ _ _ h => h) (Or.inl ⟨by rfl, ?_⟩) (by assumption) ?_
      · intro wq hSw
        have y2 := hSw.cell 2 _ rfl
        go_simp
        try with_reducible rfl
      simp only [Act.put, List.setIfInBounds_toArray, List.set_cons_zero, List.set_cons_succ]
      refine wpAnyH_take (i := 5) (oi := { dst := some 11, op := Op.fieldAddr 32 (Operand.tmp 1) 0, type := 0, pos := "ref.go:43", after := #[], guard := none }) (v := .pointer (some ⟨RB, 0, none⟩)) rfl (by as_aux_lemma => kernel_rfl) (by as_aux_lemma => kernel_rfl) (by as_aux_lemma => kernel_rfl) (fun _ _ _ h => h) (Or.inl ⟨by rfl, ?_⟩) (by assumption) ?_
      · intro wq hSw
        go_simp
        try with_reducible rfl
      simp only [Act.put, List.setIfInBounds_toArray, List.set_cons_zero, List.set_cons_succ]
      refine wpAnyH_take (i := 6) (oi := { dst := some 12, op := Op.load 3 (Operand.tmp 11), type := 3, pos := "ref.go:43", after := #[{ on := 5, ground := Ground.data }], guard := none }) (v := .int .i64 4) rfl (by as_aux_lemma => kernel_rfl) (by as_aux_lemma => kernel_rfl) (by as_aux_lemma => kernel_rfl) (fun _ _ _ h => h) (Or.inl ⟨by rfl, ?_⟩) (by assumption) ?_
      · intro wq hSw
        have y0 := hSw.cell 0 _ rfl
        go_simp
        try with_reducible rfl
      simp only [Act.put, List.setIfInBounds_toArray, List.set_cons_zero, List.set_cons_succ]
      refine wpAnyH_take (i := 7) (oi := { dst := some 13, op := Op.binOp BinOp.sub 3 (Operand.tmp 12) (Operand.const (Value.int IntKind.i64 1)) 3, type := 3, pos := "ref.go:43", after := #[{ on := 6, ground := Ground.data }], guard := none }) (v := .int .i64 3) rfl (by as_aux_lemma => kernel_rfl) (by as_aux_lemma => kernel_rfl) (by as_aux_lemma => kernel_rfl) (fun _ _ _ h => h) (Or.inl ⟨by rfl, ?_⟩) (by assumption) ?_
      · intro wq hSw
        go_simp
        try first | with_reducible rfl | decide | rfl
      simp only [Act.put, List.setIfInBounds_toArray, List.set_cons_zero, List.set_cons_succ]
      refine wpAnyH_ready (rs := [2, 4]) (by as_aux_lemma => kernel_rfl) (by simp) ?_
      refine AllReadyH.cons (o := { dst := some 8, op := Op.call { callee := Callee.value (Operand.func 30), args := #[Operand.tmp 7], argTypes := #[3] }, type := 9, pos := "ref.go:43", after := #[{ on := 1, ground := Ground.data }], guard := none }) rfl (fun K2 hK => ?_) (AllReadyH.cons (o := { dst := some 10, op := Op.buildSlice 55 4 #[(0, Operand.const (Value.string { data := #[115, 117, 98, 109, 105, 116] })), (1, Operand.const (Value.string { data := #[99, 97, 110, 99, 101, 108] })), (2, Operand.const (Value.string { data := #[112, 111, 108, 108] })), (3, Operand.const (Value.string { data := #[118, 105, 101, 119] }))], type := 55, pos := "ref.go:43", after := #[], guard := none }) rfl (fun K2 hK => ?_) AllReadyH.nil)
      · go_simp
        go_at_call 30
        refine (decimal_nn t HTT.out WD).mono ?_
        rintro e1 u1 ⟨rfl, hb1⟩
        have HK1 : Hid (Bl RB [.int .i64 4, .int .i64 cd, .int .i64 t, .int .i64 i, .int .i64 c, .bool ask, .int .i64 r0, .int .i64 r1, .int .i64 r2, .int .i64 r3, .int .i64 r4, .int .i64 r5, .slice A L.length cap] u1 ∧ Below w.heap.size w u1) := Lib.hid ⟨HB0.out.1.below hb1, Below.step HB0.out.2 hb1⟩
        clear hb1
        refine hK.out _ _ (HK1.out.1) (fun _ => ?_)
        clear hK K2
        try simp only [Act.put, List.setIfInBounds_toArray, List.set_cons_zero, List.set_cons_succ]
        refine wpAnyH_take (i := 3) (oi := { dst := some 9, op := Op.binOp BinOp.add 9 (Operand.tmp 8) (Operand.const (Value.string { data := #[32] })) 9, type := 9, pos := "ref.go:43", after := #[{ on := 2, ground := Ground.data }], guard := none }) (v := .string (Bs (dcl t.toNat) ++ ⟨#[32]⟩)) rfl (by as_aux_lemma => kernel_rfl) (by as_aux_lemma => kernel_rfl) (by as_aux_lemma => kernel_rfl) (fun _ _ _ h => h) (Or.inl ⟨by rfl, ?_⟩) (by assumption) ?_
        · intro wq hSw
          obtain ⟨hsT, hsU⟩ := HST.out
          go_simp
          try first | with_reducible rfl | omega | rw [if_neg (by omega)] | (simp only [ByteArray.size_append, Bs_size]; omega)
        simp only [Act.put, List.setIfInBounds_toArray, List.set_cons_zero, List.set_cons_succ]
        refine wpAnyH_ready (rs := [4]) (by as_aux_lemma => kernel_rfl) (by simp) ?_
        refine AllReadyH.cons (o := { dst := some 10, op := Op.buildSlice 55 4 #[(0, Operand.const (Value.string { data := #[115, 117, 98, 109, 105, 116] })), (1, Operand.const (Value.string { data := #[99, 97, 110, 99, 101, 108] })), (2, Operand.const (Value.string { data := #[112, 111, 108, 108] })), (3, Operand.const (Value.string { data := #[118, 105, 101, 119] }))], type := 55, pos := "ref.go:43", after := #[], guard := none }) rfl (fun K2 hK => ?_) AllReadyH.nil
        have gb2 : Below u1.heap.size u1 (u1.alloc (.cells (List.toArray [.string ⟨#[115, 117, 98, 109, 105, 116]⟩, .string ⟨#[99, 97, 110, 99, 101, 108]⟩, .string ⟨#[112, 111, 108, 108]⟩, .string ⟨#[118, 105, 101, 119]⟩]) 9)) := by go_grown
        have HK2 : Hid (Bl RB [.int .i64 4, .int .i64 cd, .int .i64 t, .int .i64 i, .int .i64 c, .bool ask, .int .i64 r0, .int .i64 r1, .int .i64 r2, .int .i64 r3, .int .i64 r4, .int .i64 r5, .slice A L.length cap] (u1.alloc (.cells (List.toArray [.string ⟨#[115, 117, 98, 109, 105, 116]⟩, .string ⟨#[99, 97, 110, 99, 101, 108]⟩, .string ⟨#[112, 111, 108, 108]⟩, .string ⟨#[118, 105, 101, 119]⟩]) 9)) ∧ Below w.heap.size w (u1.alloc (.cells (List.toArray [.string ⟨#[115, 117, 98, 109, 105, 116]⟩, .string ⟨#[99, 97, 110, 99, 101, 108]⟩, .string ⟨#[112, 111, 108, 108]⟩, .string ⟨#[118, 105, 101, 119]⟩]) 9))) := Lib.hid ⟨HK1.out.1.below gb2, Below.step HK1.out.2 gb2⟩
        have HV2 := Lib.hid (Bl.new u1 [.string ⟨#[115, 117, 98, 109, 105, 116]⟩, .string ⟨#[99, 97, 110, 99, 101, 108]⟩, .string ⟨#[112, 111, 108, 108]⟩, .string ⟨#[118, 105, 101, 119]⟩] 9)
        clear gb2
        go_simp
        refine hK.out _ _ (HK2.out.1) (fun _ => ?_)
        clear hK K2
        try simp only [Act.put, List.setIfInBounds_toArray, List.set_cons_zero, List.set_cons_succ]
        refine wpAnyH_take (i := 8) (oi := { dst := some 14, op := Op.indexAddr 55 (Operand.tmp 10) (Operand.tmp 13), type := 0, pos := "ref.go:43", after := #[{ on := 4, ground := Ground.data }, { on := 7, ground := Ground.data }], guard := none }) (v := .pointer (some ⟨u1.heap.size, 3, none⟩)) rfl (by as_aux_lemma => kernel_rfl) (by as_aux_lemma => kernel_rfl) (by as_aux_lemma => kernel_rfl) (fun _ _ _ h => h) (Or.inl ⟨by rfl, ?_⟩) (by assumption) ?_
        · intro wq hSw
          go_simp
          try with_reducible rfl
        simp only [Act.put, List.setIfInBounds_toArray, List.set_cons_zero, List.set_cons_succ]
        refine wpAnyH_ready (rs := [9]) (by as_aux_lemma => kernel_rfl) (by simp) ?_
        refine AllReadyH.cons (o := { dst := some 15, op := Op.load 9 (Operand.tmp 14), type := 9, pos := "ref.go:43", after := #[{ on := 8, ground := Ground.data }], guard := none }) rfl (fun K2 hK => ?_) AllReadyH.nil
        have xl := HV2.out.cell 3 _ rfl
        go_simp
        clear xl
        refine hK.out _ _ (HK2.out.1) (fun _ => ?_)
        clear hK K2
        try simp only [Act.put, List.setIfInBounds_toArray, List.set_cons_zero, List.set_cons_succ]
        refine wpAnyH_take (i := 10) (oi := { dst := some 16, op := Op.binOp BinOp.add 9 (Operand.tmp 9) (Operand.tmp 15) 9, type := 9, pos := "ref.go:43", after := #[{ on := 3, ground := Ground.data }, { on := 9, ground := Ground.data }], guard := none }) (v := .string (Bs (dcl t.toNat) ++ ⟨#[32]⟩ ++ ⟨#[118, 105, 101, 119]⟩)) rfl (by as_aux_lemma => kernel_rfl) (by as_aux_lemma => kernel_rfl) (by as_aux_lemma => kernel_rfl) (fun _ _ _ h => h) (Or.inl ⟨by rfl, ?_⟩) (by assumption) ?_
        · intro wq hSw
          obtain ⟨hsT, hsU⟩ := HST.out
          have e9 : (Bs (dcl t.toNat) ++ (⟨#[32]⟩ : ByteArray)).size = (dcl t.toNat).length + 1 := by rw [ByteArray.size_append, Bs_size]; rfl
          go_simp
          try first | with_reducible rfl | omega | rw [if_neg (by omega)] | (simp only [ByteArray.size_append, Bs_size]; omega)
        simp only [Act.put, List.setIfInBounds_toArray, List.set_cons_zero, List.set_cons_succ]
        refine wpAnyH_take (i := 11) (oi := { dst := some 3, op := Op.assign (Operand.tmp 16), type := 9, pos := "ref.go:43", after := #[{ on := 10, ground := Ground.data }, { on := 2, ground := Ground.chain }, { on := 0, ground := Ground.phase }, { on := 1, ground := Ground.phase }, { on := 2, ground := Ground.phase }, { on := 3, ground := Ground.phase }, { on := 4, ground := Ground.phase }, { on := 5, ground := Ground.phase }, { on := 6, ground := Ground.phase }, { on := 7, ground := Ground.phase }, { on := 8, ground := Ground.phase }, { on := 9, ground := Ground.phase }, { on := 10, ground := Ground.phase }], guard := none }) (v := .string (Bs (dcl t.toNat) ++ ⟨#[32]⟩ ++ ⟨#[118, 105, 101, 119]⟩)) rfl (by as_aux_lemma => kernel_rfl) (by as_aux_lemma => kernel_rfl) (by as_aux_lemma => kernel_rfl) (fun _ _ _ h => h) (Or.inl ⟨by rfl, ?_⟩) (by assumption) ?_
        · intro wq hSw
          go_simp
          try with_reducible rfl
        simp only [Act.put, List.setIfInBounds_toArray, List.set_cons_zero, List.set_cons_succ]
        refine wpAnyH_done (by as_aux_lemma => kernel_rfl) ?_ _
        go_wp2_with fail
        go_meet
        case rel => exact ⟨rel_4 _, Lib.hid HK2.out⟩
      · have gb3 : Below WD.heap.size WD (WD.alloc (.cells (List.toArray [.string ⟨#[115, 117, 98, 109, 105, 116]⟩, .string ⟨#[99, 97, 110, 99, 101, 108]⟩, .string ⟨#[112, 111, 108, 108]⟩, .string ⟨#[118, 105, 101, 119]⟩]) 9)) := by go_grown
        have HK3 : Hid (Bl RB [.int .i64 4, .int .i64 cd, .int .i64 t, .int .i64 i, .int .i64 c, .bool ask, .int .i64 r0, .int .i64 r1, .int .i64 r2, .int .i64 r3, .int .i64 r4, .int .i64 r5, .slice A L.length cap] (WD.alloc (.cells (List.toArray [.string ⟨#[115, 117, 98, 109, 105, 116]⟩, .string ⟨#[99, 97, 110, 99, 101, 108]⟩, .string ⟨#[112, 111, 108, 108]⟩, .string ⟨#[118, 105, 101, 119]⟩]) 9)) ∧ Below w.heap.size w (WD.alloc (.cells (List.toArray [.string ⟨#[115, 117, 98, 109, 105, 116]⟩, .string ⟨#[99, 97, 110, 99, 101, 108]⟩, .string ⟨#[112, 111, 108, 108]⟩, .string ⟨#[118, 105, 101, 119]⟩]) 9))) := Lib.hid ⟨HB0.out.1.below gb3, Below.step HB0.out.2 gb3⟩
        have HV3 := Lib.hid (Bl.new WD [.string ⟨#[115, 117, 98, 109, 105, 116]⟩, .string ⟨#[99, 97, 110, 99, 101, 108]⟩, .string ⟨#[112, 111, 108, 108]⟩, .string ⟨#[118, 105, 101, 119]⟩] 9)
        clear gb3
        go_simp
        refine hK.out _ _ (HK3.out.1) (fun _ => ?_)
        clear hK K2
        try simp only [Act.put, List.setIfInBounds_toArray, List.set_cons_zero, List.set_cons_succ]
        refine wpAnyH_take (i := 8) (oi := { dst := some 14, op := Op.indexAddr 55 (Operand.tmp 10) (Operand.tmp 13), type := 0, pos := "ref.go:43", after := #[{ on := 4, ground := Ground.data }, { on := 7, ground := Ground.data }], guard := none }) (v := .pointer (some ⟨WD.heap.size, 3, none⟩)) rfl (by as_aux_lemma => kernel_rfl) (by as_aux_lemma => kernel_rfl) (by as_aux_lemma => kernel_rfl) (fun _ _ _ h => h) (Or.inl ⟨by rfl, ?_⟩) (by assumption) ?_
        · intro wq hSw
          go_simp
          try with_reducible rfl
        simp only [Act.put, List.setIfInBounds_toArray, List.set_cons_zero, List.set_cons_succ]
        refine wpAnyH_ready (rs := [2, 9]) (by as_aux_lemma => kernel_rfl) (by simp) ?_
        refine AllReadyH.cons (o := { dst := some 8, op := Op.call { callee := Callee.value (Operand.func 30), args := #[Operand.tmp 7], argTypes := #[3] }, type := 9, pos := "ref.go:43", after := #[{ on := 1, ground := Ground.data }], guard := none }) rfl (fun K2 hK => ?_) (AllReadyH.cons (o := { dst := some 15, op := Op.load 9 (Operand.tmp 14), type := 9, pos := "ref.go:43", after := #[{ on := 8, ground := Ground.data }], guard := none }) rfl (fun K2 hK => ?_) AllReadyH.nil)
        · go_simp
          go_at_call 30
          refine (decimal_nn t HTT.out (WD.alloc (.cells (List.toArray [.string ⟨#[115, 117, 98, 109, 105, 116]⟩, .string ⟨#[99, 97, 110, 99, 101, 108]⟩, .string ⟨#[112, 111, 108, 108]⟩, .string ⟨#[118, 105, 101, 119]⟩]) 9))).mono ?_
          rintro e4 u4 ⟨rfl, hb4⟩
          have HK4 : Hid (Bl RB [.int .i64 4, .int .i64 cd, .int .i64 t, .int .i64 i, .int .i64 c, .bool ask, .int .i64 r0, .int .i64 r1, .int .i64 r2, .int .i64 r3, .int .i64 r4, .int .i64 r5, .slice A L.length cap] u4 ∧ Below w.heap.size w u4) := Lib.hid ⟨HK3.out.1.below hb4, Below.step HK3.out.2 hb4⟩
          have HV4 := Lib.hid (HV3.out.below hb4)
          clear hb4
          refine hK.out _ _ (HK4.out.1) (fun _ => ?_)
          clear hK K2
          try simp only [Act.put, List.setIfInBounds_toArray, List.set_cons_zero, List.set_cons_succ]
          refine wpAnyH_take (i := 3) (oi := { dst := some 9, op := Op.binOp BinOp.add 9 (Operand.tmp 8) (Operand.const (Value.string { data := #[32] })) 9, type := 9, pos := "ref.go:43", after := #[{ on := 2, ground := Ground.data }], guard := none }) (v := .string (Bs (dcl t.toNat) ++ ⟨#[32]⟩)) rfl (by as_aux_lemma => kernel_rfl) (by as_aux_lemma => kernel_rfl) (by as_aux_lemma => kernel_rfl) (fun _ _ _ h => h) (Or.inl ⟨by rfl, ?_⟩) (by assumption) ?_
          · intro wq hSw
            obtain ⟨hsT, hsU⟩ := HST.out
            go_simp
            try first | with_reducible rfl | omega | rw [if_neg (by omega)] | (simp only [ByteArray.size_append, Bs_size]; omega)
          simp only [Act.put, List.setIfInBounds_toArray, List.set_cons_zero, List.set_cons_succ]
          refine wpAnyH_ready (rs := [9]) (by as_aux_lemma => kernel_rfl) (by simp) ?_
          refine AllReadyH.cons (o := { dst := some 15, op := Op.load 9 (Operand.tmp 14), type := 9, pos := "ref.go:43", after := #[{ on := 8, ground := Ground.data }], guard := none }) rfl (fun K2 hK => ?_) AllReadyH.nil
          have xl := HV4.out.cell 3 _ rfl
          go_simp
          clear xl
          refine hK.out _ _ (HK4.out.1) (fun _ => ?_)
          clear hK K2
          try simp only [Act.put, List.setIfInBounds_toArray, List.set_cons_zero, List.set_cons_succ]
          refine wpAnyH_take (i := 10) (oi := { dst := some 16, op := Op.binOp BinOp.add 9 (Operand.tmp 9) (Operand.tmp 15) 9, type := 9, pos := "ref.go:43", after := #[{ on := 3, ground := Ground.data }, { on := 9, ground := Ground.data }], guard := none }) (v := .string (Bs (dcl t.toNat) ++ ⟨#[32]⟩ ++ ⟨#[118, 105, 101, 119]⟩)) rfl (by as_aux_lemma => kernel_rfl) (by as_aux_lemma => kernel_rfl) (by as_aux_lemma => kernel_rfl) (fun _ _ _ h => h) (Or.inl ⟨by rfl, ?_⟩) (by assumption) ?_
          · intro wq hSw
            obtain ⟨hsT, hsU⟩ := HST.out
            have e9 : (Bs (dcl t.toNat) ++ (⟨#[32]⟩ : ByteArray)).size = (dcl t.toNat).length + 1 := by rw [ByteArray.size_append, Bs_size]; rfl
            go_simp
            try first | with_reducible rfl | omega | rw [if_neg (by omega)] | (simp only [ByteArray.size_append, Bs_size]; omega)
          simp only [Act.put, List.setIfInBounds_toArray, List.set_cons_zero, List.set_cons_succ]
          refine wpAnyH_take (i := 11) (oi := { dst := some 3, op := Op.assign (Operand.tmp 16), type := 9, pos := "ref.go:43", after := #[{ on := 10, ground := Ground.data }, { on := 2, ground := Ground.chain }, { on := 0, ground := Ground.phase }, { on := 1, ground := Ground.phase }, { on := 2, ground := Ground.phase }, { on := 3, ground := Ground.phase }, { on := 4, ground := Ground.phase }, { on := 5, ground := Ground.phase }, { on := 6, ground := Ground.phase }, { on := 7, ground := Ground.phase }, { on := 8, ground := Ground.phase }, { on := 9, ground := Ground.phase }, { on := 10, ground := Ground.phase }], guard := none }) (v := .string (Bs (dcl t.toNat) ++ ⟨#[32]⟩ ++ ⟨#[118, 105, 101, 119]⟩)) rfl (by as_aux_lemma => kernel_rfl) (by as_aux_lemma => kernel_rfl) (by as_aux_lemma => kernel_rfl) (fun _ _ _ h => h) (Or.inl ⟨by rfl, ?_⟩) (by assumption) ?_
          · intro wq hSw
            go_simp
            try with_reducible rfl
          simp only [Act.put, List.setIfInBounds_toArray, List.set_cons_zero, List.set_cons_succ]
          refine wpAnyH_done (by as_aux_lemma => kernel_rfl) ?_ _
          go_wp2_with fail
          go_meet
          case rel => exact ⟨rel_4 _, Lib.hid HK4.out⟩
        · have xl := HV3.out.cell 3 _ rfl
          go_simp
          clear xl
          refine hK.out _ _ (HK3.out.1) (fun _ => ?_)
          clear hK K2
          try simp only [Act.put, List.setIfInBounds_toArray, List.set_cons_zero, List.set_cons_succ]
          refine wpAnyH_ready (rs := [2]) (by as_aux_lemma => kernel_rfl) (by simp) ?_
          refine AllReadyH.cons (o := { dst := some 8, op := Op.call { callee := Callee.value (Operand.func 30), args := #[Operand.tmp 7], argTypes := #[3] }, type := 9, pos := "ref.go:43", after := #[{ on := 1, ground := Ground.data }], guard := none }) rfl (fun K2 hK => ?_) AllReadyH.nil
          go_simp
          go_at_call 30
          refine (decimal_nn t HTT.out (WD.alloc (.cells (List.toArray [.string ⟨#[115, 117, 98, 109, 105, 116]⟩, .string ⟨#[99, 97, 110, 99, 101, 108]⟩, .string ⟨#[112, 111, 108, 108]⟩, .string ⟨#[118, 105, 101, 119]⟩]) 9))).mono ?_
          rintro e5 u5 ⟨rfl, hb5⟩
          have HK5 : Hid (Bl RB [.int .i64 4, .int .i64 cd, .int .i64 t, .int .i64 i, .int .i64 c, .bool ask, .int .i64 r0, .int .i64 r1, .int .i64 r2, .int .i64 r3, .int .i64 r4, .int .i64 r5, .slice A L.length cap] u5 ∧ Below w.heap.size w u5) := Lib.hid ⟨HK3.out.1.below hb5, Below.step HK3.out.2 hb5⟩
          clear hb5
          refine hK.out _ _ (HK5.out.1) (fun _ => ?_)
          clear hK K2
          try simp only [Act.put, List.setIfInBounds_toArray, List.set_cons_zero, List.set_cons_succ]
          refine wpAnyH_take (i := 3) (oi := { dst := some 9, op := Op.binOp BinOp.add 9 (Operand.tmp 8) (Operand.const (Value.string { data := #[32] })) 9, type := 9, pos := "ref.go:43", after := #[{ on := 2, ground := Ground.data }], guard := none }) (v := .string (Bs (dcl t.toNat) ++ ⟨#[32]⟩)) rfl (by as_aux_lemma => kernel_rfl) (by as_aux_lemma => kernel_rfl) (by as_aux_lemma => kernel_rfl) (fun _ _ _ h => h) (Or.inl ⟨by rfl, ?_⟩) (by assumption) ?_
          · intro wq hSw
            obtain ⟨hsT, hsU⟩ := HST.out
            go_simp
            try first | with_reducible rfl | omega | rw [if_neg (by omega)] | (simp only [ByteArray.size_append, Bs_size]; omega)
          simp only [Act.put, List.setIfInBounds_toArray, List.set_cons_zero, List.set_cons_succ]
          refine wpAnyH_take (i := 10) (oi := { dst := some 16, op := Op.binOp BinOp.add 9 (Operand.tmp 9) (Operand.tmp 15) 9, type := 9, pos := "ref.go:43", after := #[{ on := 3, ground := Ground.data }, { on := 9, ground := Ground.data }], guard := none }) (v := .string (Bs (dcl t.toNat) ++ ⟨#[32]⟩ ++ ⟨#[118, 105, 101, 119]⟩)) rfl (by as_aux_lemma => kernel_rfl) (by as_aux_lemma => kernel_rfl) (by as_aux_lemma => kernel_rfl) (fun _ _ _ h => h) (Or.inl ⟨by rfl, ?_⟩) (by assumption) ?_
          · intro wq hSw
            obtain ⟨hsT, hsU⟩ := HST.out
            have e9 : (Bs (dcl t.toNat) ++ (⟨#[32]⟩ : ByteArray)).size = (dcl t.toNat).length + 1 := by rw [ByteArray.size_append, Bs_size]; rfl
            go_simp
            try first | with_reducible rfl | omega | rw [if_neg (by omega)] | (simp only [ByteArray.size_append, Bs_size]; omega)
          simp only [Act.put, List.setIfInBounds_toArray, List.set_cons_zero, List.set_cons_succ]
          refine wpAnyH_take (i := 11) (oi := { dst := some 3, op := Op.assign (Operand.tmp 16), type := 9, pos := "ref.go:43", after := #[{ on := 10, ground := Ground.data }, { on := 2, ground := Ground.chain }, { on := 0, ground := Ground.phase }, { on := 1, ground := Ground.phase }, { on := 2, ground := Ground.phase }, { on := 3, ground := Ground.phase }, { on := 4, ground := Ground.phase }, { on := 5, ground := Ground.phase }, { on := 6, ground := Ground.phase }, { on := 7, ground := Ground.phase }, { on := 8, ground := Ground.phase }, { on := 9, ground := Ground.phase }, { on := 10, ground := Ground.phase }], guard := none }) (v := .string (Bs (dcl t.toNat) ++ ⟨#[32]⟩ ++ ⟨#[118, 105, 101, 119]⟩)) rfl (by as_aux_lemma => kernel_rfl) (by as_aux_lemma => kernel_rfl) (by as_aux_lemma => kernel_rfl) (fun _ _ _ h => h) (Or.inl ⟨by rfl, ?_⟩) (by assumption) ?_
          · intro wq hSw
            go_simp
            try with_reducible rfl
          simp only [Act.put, List.setIfInBounds_toArray, List.set_cons_zero, List.set_cons_succ]
          refine wpAnyH_done (by as_aux_lemma => kernel_rfl) ?_ _
          go_wp2_with fail
          go_meet
          case rel => exact ⟨rel_4 _, Lib.hid HK5.out⟩
  case rest =>
    obtain ⟨rfl, HB1⟩ := hcut
    clear HB
    obtain ⟨S, hS⟩ : ∃ S, S = jl (dcl t.toNat :: vbl k :: []) := ⟨_, rfl⟩
    rw [← hS]
    have HSE := Lib.hid hS
    have HSL : Hid (S.length ≤ 100000) := Lib.hid (by rw [hS]; have h1 := HSH.out; have h2 := jl_app (dcl t.toNat) [vbl k] ((if k ≤ 2 then [dcl i.toNat] else []) ++ ((if k ≤ 3 then [dcl c.toNat] else []) ++ tl_ ⟨k, cd, t, i, c, ask, r0, r1, r2, r3, r4, r5, L⟩)); have h3 : jl (aw ⟨k, cd, t, i, c, ask, r0, r1, r2, r3, r4, r5, L⟩) = _ := h2; rw [h3] at h1; rw [List.length_append] at h1; omega)
    clear hS
    have y0 := HB1.out.1.cell 0 _ rfl
    have y3 := HB1.out.1.cell 3 _ rfl
    go_upto_if 19 with fail
    go_cut [3] (fun s wx => s = .string (Bs (jl (dcl t.toNat :: vbl k :: (if k ≤ 2 then [dcl i.toNat] else [])))) ∧ Hid (Bl RB [.int .i64 k, .int .i64 cd, .int .i64 t, .int .i64 i, .int .i64 c, .bool ask, .int .i64 r0, .int .i64 r1, .int .i64 r2, .int .i64 r3, .int .i64 r4, .int .i64 r5, .slice A L.length cap] wx ∧ Below w.heap.size w wx))
    case first =>
      by_cases hk : k ≤ 2
      · have HK := Lib.hid hk
        rw [show decide (k ≤ 2) = true from decide_eq_true hk]
        have HN : Hid (0 ≤ i ∧ i ≤ 9223372036854775807) := Lib.hid (by have h1 : 0 ≤ i ∧ i ≤ 9999999 := HRT.out.i; omega)
        clear hk
        have hbs : (Bs S).size = S.length := Bs_size S
        have hsl : S.length ≤ 100000 := HSL.out
        have hdi : (Bs (dcl i.toNat)).size = (dcl i.toNat).length := Bs_size _
        have hli : (dcl i.toNat).length ≤ 19 := dcl_int_len (by have := HN.out; omega)
        go_wp2_with fail
        refine (decimal_nn i HN.out _).mono ?_
        rintro e1 w1 ⟨rfl, hb1⟩
        have HB2 : Hid (Bl RB [.int .i64 k, .int .i64 cd, .int .i64 t, .int .i64 i, .int .i64 c, .bool ask, .int .i64 r0, .int .i64 r1, .int .i64 r2, .int .i64 r3, .int .i64 r4, .int .i64 r5, .slice A L.length cap] w1 ∧ Below w.heap.size w w1) := Lib.hid ⟨HB1.out.1.below hb1, Below.step HB1.out.2 hb1⟩
        clear hb1
        go_wp2_with fail
        go_meet
        case rel =>
          refine ⟨?_, HB2⟩
          rw [Bs_sp, HSE.out, if_pos (show k ≤ 2 by have := HK.out; omega)]
          exact congrArg (fun l => Value.string (Bs l)) (by exact (jl_snoc (dcl t.toNat) [vbl k] (dcl i.toNat)).symm)
      · have HK := Lib.hid hk
        rw [show decide (k ≤ 2) = false from decide_eq_false hk]
        clear hk
        go_wp2_with fail
        go_meet
        case rel =>
          refine ⟨?_, HB1⟩
          rw [HSE.out, if_neg (show ¬ k ≤ 2 by have := HK.out; omega)]
          try rw [List.append_nil]
    case rest =>
      obtain ⟨rfl, HB1⟩ := hcut
      clear y0 y3 HSL HSE
      obtain ⟨S, hS⟩ : ∃ S, S = jl (dcl t.toNat :: vbl k :: (if k ≤ 2 then [dcl i.toNat] else [])) := ⟨_, rfl⟩
      rw [← hS]
      have HSE := Lib.hid hS
      have HSL : Hid (S.length ≤ 100000) := Lib.hid (by rw [hS]; have h1 := HSH.out; have h2 := jl_app (dcl t.toNat) (vbl k :: (if k ≤ 2 then [dcl i.toNat] else [])) ((if k ≤ 3 then [dcl c.toNat] else []) ++ tl_ ⟨k, cd, t, i, c, ask, r0, r1, r2, r3, r4, r5, L⟩); have h3 : jl (aw ⟨k, cd, t, i, c, ask, r0, r1, r2, r3, r4, r5, L⟩) = _ := h2; rw [h3] at h1; rw [List.length_append] at h1; omega)
      clear hS
      have y0 := HB1.out.1.cell 0 _ rfl
      have y4 := HB1.out.1.cell 4 _ rfl
      go_upto_if 28 with fail
      go_cut [3] (fun s wx => s = .string (Bs (jl (dcl t.toNat :: vbl k :: ((if k ≤ 2 then [dcl i.toNat] else []) ++ (if k ≤ 3 then [dcl c.toNat] else []))))) ∧ Hid (Bl RB [.int .i64 k, .int .i64 cd, .int .i64 t, .int .i64 i, .int .i64 c, .bool ask, .int .i64 r0, .int .i64 r1, .int .i64 r2, .int .i64 r3, .int .i64 r4, .int .i64 r5, .slice A L.length cap] wx ∧ Below w.heap.size w wx))
      case first =>
        by_cases hk : k ≤ 3
        · have HK := Lib.hid hk
          rw [show decide (k ≤ 3) = true from decide_eq_true hk]
          have HN : Hid (0 ≤ c ∧ c ≤ 9223372036854775807) := Lib.hid (by have h1 : 0 ≤ c ∧ c ≤ 9999999 := HRT.out.c; omega)
          clear hk
          have hbs : (Bs S).size = S.length := Bs_size S
          have hsl : S.length ≤ 100000 := HSL.out
          have hdc : (Bs (dcl c.toNat)).size = (dcl c.toNat).length := Bs_size _
          have hlc : (dcl c.toNat).length ≤ 19 := dcl_int_len (by have := HN.out; omega)
          go_wp2_with fail
          refine (decimal_nn c HN.out _).mono ?_
          rintro e2 w2 ⟨rfl, hb2⟩
          have HB2 : Hid (Bl RB [.int .i64 k, .int .i64 cd, .int .i64 t, .int .i64 i, .int .i64 c, .bool ask, .int .i64 r0, .int .i64 r1, .int .i64 r2, .int .i64 r3, .int .i64 r4, .int .i64 r5, .slice A L.length cap] w2 ∧ Below w.heap.size w w2) := Lib.hid ⟨HB1.out.1.below hb2, Below.step HB1.out.2 hb2⟩
          clear hb2
          go_wp2_with fail
          go_meet
          case rel =>
            refine ⟨?_, HB2⟩
            rw [Bs_sp, HSE.out, if_pos (show k ≤ 3 by have := HK.out; omega)]
            exact congrArg (fun l => Value.string (Bs l)) (by have := jl_snoc (dcl t.toNat) (vbl k :: (if k ≤ 2 then [dcl i.toNat] else [])) (dcl c.toNat); exact this.symm)
        · have HK := Lib.hid hk
          rw [show decide (k ≤ 3) = false from decide_eq_false hk]
          clear hk
          go_wp2_with fail
          go_meet
          case rel =>
            refine ⟨?_, HB1⟩
            rw [HSE.out, if_neg (show ¬ k ≤ 3 by have := HK.out; omega)]
            try rw [List.append_nil]
      case rest =>
        obtain ⟨rfl, HB1⟩ := hcut
        clear y0 y4 HSL HSE
        obtain ⟨S, hS⟩ : ∃ S, S = jl (dcl t.toNat :: vbl k :: ((if k ≤ 2 then [dcl i.toNat] else []) ++ (if k ≤ 3 then [dcl c.toNat] else []))) := ⟨_, rfl⟩
        have HAW : Hid (jl (aw ⟨k, cd, t, i, c, ask, r0, r1, r2, r3, r4, r5, L⟩) = S ++ jt (tl_ ⟨k, cd, t, i, c, ask, r0, r1, r2, r3, r4, r5, L⟩)) := Lib.hid (by
          have h2 := jl_app (dcl t.toNat) (vbl k :: ((if k ≤ 2 then [dcl i.toNat] else []) ++ (if k ≤ 3 then [dcl c.toNat] else []))) (tl_ ⟨k, cd, t, i, c, ask, r0, r1, r2, r3, r4, r5, L⟩)
          rw [hS, ← h2]
          unfold aw
          rw [List.cons_append, List.append_assoc])
        rw [← hS]
        have HSL : Hid (S.length + (jt (tl_ ⟨k, cd, t, i, c, ask, r0, r1, r2, r3, r4, r5, L⟩)).length ≤ 100000) := Lib.hid (by
          have h1 := HSH.out
          rw [HAW.out, List.length_append] at h1
          omega)
        clear hS
        have hbs : (Bs S).size = S.length := Bs_size S
        have hsl : S.length ≤ 100000 := by have := HSL.out; omega
        have y0 := HB1.out.1.cell 0 _ rfl
        have y1 := HB1.out.1.cell 1 _ rfl
        have y5 := HB1.out.1.cell 5 _ rfl
        by_cases hcd : cd = 0
        · subst hcd
          cases ask with
          | true =>
            have HT : Hid (tl_ ⟨k, 0, t, i, c, true, r0, r1, r2, r3, r4, r5, L⟩ = [wAsk]) := Lib.hid (by unfold tl_; simp)
            go_wp2_with fail
            go_ret
            refine ⟨?_, HB1.out.2⟩
            rw [HAW.out, HT.out]
            have e9 : (⟨#[32, 97, 115, 107, 101, 100]⟩ : ByteArray) = Bs (32 :: wAsk) := rfl
            show Ending.returned (Value.string (Bs S ++ _)) = _
            rw [e9, Bs_append]
            refine congrArg (fun l => Ending.returned (Value.string (Bs l))) ?_
            unfold jt
            simp
          | false =>
            have hk4 : k = 1 ∨ k = 2 ∨ k = 3 ∨ k = 4 := by
              have h9 : 1 ≤ k ∧ k ≤ 4 := HRT.out.k
              omega
            rcases hk4 with rfl | rfl | rfl | rfl
            · have HT : Hid (tl_ ⟨1, 0, t, i, c, false, r0, r1, r2, r3, r4, r5, L⟩ = [wOk]) := Lib.hid (by unfold tl_; simp)
              go_wp2_with fail
              go_ret
              refine ⟨?_, HB1.out.2⟩
              rw [HAW.out, HT.out]
              have e9 : (⟨#[32, 111, 107]⟩ : ByteArray) = Bs (32 :: wOk) := rfl
              show Ending.returned (Value.string (Bs S ++ _)) = _
              rw [e9, Bs_append]
              refine congrArg (fun l => Ending.returned (Value.string (Bs l))) ?_
              unfold jt
              simp
            · have HT : Hid (tl_ ⟨2, 0, t, i, c, false, r0, r1, r2, r3, r4, r5, L⟩ = [wOk]) := Lib.hid (by unfold tl_; simp)
              go_wp2_with fail
              go_ret
              refine ⟨?_, HB1.out.2⟩
              rw [HAW.out, HT.out]
              have e9 : (⟨#[32, 111, 107]⟩ : ByteArray) = Bs (32 :: wOk) := rfl
              show Ending.returned (Value.string (Bs S ++ _)) = _
              rw [e9, Bs_append]
              refine congrArg (fun l => Ending.returned (Value.string (Bs l))) ?_
              unfold jt
              simp
            · have hrc : (r0 = 0 ∧ r1 = 0 ∧ r2 = 0 ∧ r3 = 0 ∧ r4 = 0 ∧ r5 = 0) ∨ ((3 : Int) = 3 ∧ (0 : Int) = 0 ∧ (1 ≤ r0 ∧ r0 ≤ 5) ∧ (0 ≤ r1 ∧ r1 ≤ 9999999) ∧ (0 ≤ r2 ∧ r2 ≤ 9999999) ∧ (0 ≤ r3 ∧ r3 ≤ 9999999) ∧ r4 = 0 ∧ r5 = 0) := HRT.out.recs
              have HRC := Lib.hid hrc
              have HR0 : Hid (0 ≤ r0 ∧ r0 ≤ 5) := Lib.hid (by omega)
              clear hrc
              have y6 := HB1.out.1.cell 6 _ rfl
              have hbn : (Bs (rn r0)).size = (rn r0).length := Bs_size _
              have hln : (rn r0).length ≤ 9 := by
                have h0 := HR0.out
                rcases (show r0 = 0 ∨ r0 = 1 ∨ r0 = 2 ∨ r0 = 3 ∨ r0 = 4 ∨ r0 = 5 by omega) with h | h | h | h | h | h <;> rw [h] <;> decide
              go_wp2_with fail
              refine (refrn_is r0 HR0.out _).mono ?_
              rintro e4 w4 ⟨rfl, hb4⟩
              have HB4 : Hid (Bl RB [.int .i64 3, .int .i64 0, .int .i64 t, .int .i64 i, .int .i64 c, .bool false, .int .i64 r0, .int .i64 r1, .int .i64 r2, .int .i64 r3, .int .i64 r4, .int .i64 r5, .slice A L.length cap] w4 ∧ Below w.heap.size w w4) := Lib.hid ⟨HB1.out.1.below hb4, Below.step HB1.out.2 hb4⟩
              clear hb4 y0 y1 y5 y6
              have y6 := HB4.out.1.cell 6 _ rfl
              by_cases hr0 : r0 = 0
              · have HT : Hid (tl_ ⟨3, 0, t, i, c, false, r0, r1, r2, r3, r4, r5, L⟩ = [rn r0]) := Lib.hid (by unfold tl_; simp [hr0])
                have q6 : decide ((0 : Int) < r0) = false := decide_eq_false (by omega)
                clear hr0
                go_wp2_with fail
                go_ret
                refine ⟨?_, HB4.out.2⟩
                rw [HAW.out, HT.out]
                show Ending.returned (Value.string (Bs S ++ ⟨#[32]⟩ ++ Bs (rn r0))) = _
                rw [Bs_sp]
                refine congrArg (fun l => Ending.returned (Value.string (Bs l))) ?_
                unfold jt
                simp
              · have HT : Hid (tl_ ⟨3, 0, t, i, c, false, r0, r1, r2, r3, r4, r5, L⟩ = [rn r0, dcl r1.toNat, dcl r2.toNat, dcl r3.toNat]) := Lib.hid (by unfold tl_; simp [hr0])
                have q6 : (0 : Int) < r0 := by have := HR0.out; omega
                have HRR : Hid ((0 ≤ r1 ∧ r1 ≤ 9223372036854775807) ∧ (0 ≤ r2 ∧ r2 ≤ 9223372036854775807) ∧ (0 ≤ r3 ∧ r3 ≤ 9223372036854775807)) := Lib.hid (by have h := HRC.out; omega)
                clear hr0
                obtain ⟨S3, hS3⟩ : ∃ S3, S3 = S ++ 32 :: rn r0 := ⟨_, rfl⟩
                have HSZ : Hid ((Bs S3).size = S3.length ∧ S3.length ≤ 100010 ∧ (dcl r1.toNat).length ≤ 19 ∧ (dcl r2.toNat).length ≤ 19 ∧ (dcl r3.toNat).length ≤ 19 ∧ True ∧ True) := Lib.hid ⟨Bs_size _, by rw [hS3, List.length_append, List.length_cons]; omega, dcl_int_len (by have := HRR.out; omega), dcl_int_len (by have := HRR.out; omega), dcl_int_len (by have := HRR.out; omega), trivial, trivial⟩
                have HS3 := Lib.hid hS3
                go_upto_region 15 with fail
                rw [Bs_sp, ← HS3.out]
                clear hS3 y6 hbs hsl hbn hln
                have gd : Below w4.heap.size w4 w4.drew := (Below.refl _ _).drew
                have HB5 : Hid (Bl RB [.int .i64 3, .int .i64 0, .int .i64 t, .int .i64 i, .int .i64 c, .bool false, .int .i64 r0, .int .i64 r1, .int .i64 r2, .int .i64 r3, .int .i64 r4, .int .i64 r5, .slice A L.length cap] w4.drew ∧ Below w.heap.size w w4.drew) := Lib.hid ⟨HB4.out.1.below gd, Below.step HB4.out.2 gd⟩
                clear gd
                refine wp_region_held_drew (S := fun w' => Bl RB [.int .i64 3, .int .i64 0, .int .i64 t, .int .i64 i, .int .i64 c, .bool false, .int .i64 r0, .int .i64 r1, .int .i64 r2, .int .i64 r3, .int .i64 r4, .int .i64 r5, .slice A L.length cap] w') (by kernel_rfl) HB5.out.1 (fun hHeld => ?_)
                generalize w4.drew = WD at HB5 hHeld ⊢
                refine wpAnyH_take (i := 0) (oi := { dst := some 67, op := Op.move (Operand.tmp 3), type := 9, pos := "ref.go:62", after := #[], guard := none }) (v := .string (Bs S3)) rfl (by as_aux_lemma => kernel_rfl) (by as_aux_lemma => kernel_rfl) (by as_aux_lemma => kernel_rfl) (fun _ _ _ h => h) (Or.inl ⟨by rfl, ?_⟩) (by assumption) ?_
                · intro wq hSw
                  go_simp
                  try with_reducible rfl
                simp only [Act.put, List.setIfInBounds_toArray, List.set_cons_zero, List.set_cons_succ]
                refine wpAnyH_take (i := 1) (oi := { dst := some 68, op := Op.binOp BinOp.add 9 (Operand.tmp 67) (Operand.const (Value.string { data := #[32] })) 9, type := 9, pos := "ref.go:62", after := #[{ on := 0, ground := Ground.data }], guard := none }) (v := .string (Bs S3 ++ ⟨#[32]⟩)) rfl (by as_aux_lemma => kernel_rfl) (by as_aux_lemma => kernel_rfl) (by as_aux_lemma => kernel_rfl) (fun _ _ _ h => h) (Or.inl ⟨by rfl, ?_⟩) (by assumption) ?_
                · intro wq hSw
                  have hsz := HSZ.out
                  obtain ⟨hz1, hz2, hz3, hz4, hz5, hz6, hz7⟩ := hsz
                  go_simp
                  try first | with_reducible rfl | omega | rw [if_neg (by omega)] | (simp only [ByteArray.size_append, Bs_size]; omega)
                simp only [Act.put, List.setIfInBounds_toArray, List.set_cons_zero, List.set_cons_succ]
                refine wpAnyH_take (i := 2) (oi := { dst := some 69, op := Op.fieldAddr 32 (Operand.tmp 1) 6, type := 0, pos := "ref.go:62", after := #[], guard := none }) (v := .pointer (some ⟨RB, 6, none⟩)) rfl (by as_aux_lemma => kernel_rfl) (by as_aux_lemma => kernel_rfl) (by as_aux_lemma => kernel_rfl) (fun _ _ _ h => h) (Or.inl ⟨by rfl, ?_⟩) (by assumption) ?_
                · intro wq hSw
                  go_simp
                  try with_reducible rfl
                simp only [Act.put, List.setIfInBounds_toArray, List.set_cons_zero, List.set_cons_succ]
                refine wpAnyH_take (i := 3) (oi := { dst := some 70, op := Op.fieldAddr 24 (Operand.tmp 69) 1, type := 0, pos := "ref.go:62", after := #[{ on := 2, ground := Ground.data }], guard := none }) (v := .pointer (some ⟨RB, 7, none⟩)) rfl (by as_aux_lemma => kernel_rfl) (by as_aux_lemma => kernel_rfl) (by as_aux_lemma => kernel_rfl) (fun _ _ _ h => h) (Or.inl ⟨by rfl, ?_⟩) (by assumption) ?_
                · intro wq hSw
                  go_simp
                  try with_reducible rfl
                simp only [Act.put, List.setIfInBounds_toArray, List.set_cons_zero, List.set_cons_succ]
                refine wpAnyH_take (i := 4) (oi := { dst := some 71, op := Op.load 3 (Operand.tmp 70), type := 3, pos := "ref.go:62", after := #[{ on := 3, ground := Ground.data }], guard := none }) (v := .int .i64 r1) rfl (by as_aux_lemma => kernel_rfl) (by as_aux_lemma => kernel_rfl) (by as_aux_lemma => kernel_rfl) (fun _ _ _ h => h) (Or.inl ⟨by rfl, ?_⟩) (by assumption) ?_
                · intro wq hSw
                  have y7 := hSw.cell 7 _ rfl
                  go_simp
                  try with_reducible rfl
                simp only [Act.put, List.setIfInBounds_toArray, List.set_cons_zero, List.set_cons_succ]
                refine wpAnyH_take (i := 8) (oi := { dst := some 75, op := Op.fieldAddr 32 (Operand.tmp 1) 6, type := 0, pos := "ref.go:62", after := #[], guard := none }) (v := .pointer (some ⟨RB, 6, none⟩)) rfl (by as_aux_lemma => kernel_rfl) (by as_aux_lemma => kernel_rfl) (by as_aux_lemma => kernel_rfl) (fun _ _ _ h => h) (Or.inl ⟨by rfl, ?_⟩) (by assumption) ?_
                · intro wq hSw
                  go_simp
                  try with_reducible rfl
                simp only [Act.put, List.setIfInBounds_toArray, List.set_cons_zero, List.set_cons_succ]
                refine wpAnyH_take (i := 9) (oi := { dst := some 76, op := Op.fieldAddr 24 (Operand.tmp 75) 2, type := 0, pos := "ref.go:62", after := #[{ on := 8, ground := Ground.data }], guard := none }) (v := .pointer (some ⟨RB, 8, none⟩)) rfl (by as_aux_lemma => kernel_rfl) (by as_aux_lemma => kernel_rfl) (by as_aux_lemma => kernel_rfl) (fun _ _ _ h => h) (Or.inl ⟨by rfl, ?_⟩) (by assumption) ?_
                · intro wq hSw
                  go_simp
                  try with_reducible rfl
                simp only [Act.put, List.setIfInBounds_toArray, List.set_cons_zero, List.set_cons_succ]
                refine wpAnyH_take (i := 10) (oi := { dst := some 77, op := Op.load 3 (Operand.tmp 76), type := 3, pos := "ref.go:62", after := #[{ on := 9, ground := Ground.data }], guard := none }) (v := .int .i64 r2) rfl (by as_aux_lemma => kernel_rfl) (by as_aux_lemma => kernel_rfl) (by as_aux_lemma => kernel_rfl) (fun _ _ _ h => h) (Or.inl ⟨by rfl, ?_⟩) (by assumption) ?_
                · intro wq hSw
                  have y8 := hSw.cell 8 _ rfl
                  go_simp
                  try with_reducible rfl
                simp only [Act.put, List.setIfInBounds_toArray, List.set_cons_zero, List.set_cons_succ]
                refine wpAnyH_take (i := 14) (oi := { dst := some 81, op := Op.fieldAddr 32 (Operand.tmp 1) 6, type := 0, pos := "ref.go:62", after := #[], guard := none }) (v := .pointer (some ⟨RB, 6, none⟩)) rfl (by as_aux_lemma => kernel_rfl) (by as_aux_lemma => kernel_rfl) (by as_aux_lemma => kernel_rfl) (fun _ _ _ h => h) (Or.inl ⟨by rfl, ?_⟩) (by assumption) ?_
                · intro wq hSw
                  go_simp
                  try with_reducible rfl
                simp only [Act.put, List.setIfInBounds_toArray, List.set_cons_zero, List.set_cons_succ]
                refine wpAnyH_take (i := 15) (oi := { dst := some 82, op := Op.fieldAddr 24 (Operand.tmp 81) 3, type := 0, pos := "ref.go:62", after := #[{ on := 14, ground := Ground.data }], guard := none }) (v := .pointer (some ⟨RB, 9, none⟩)) rfl (by as_aux_lemma => kernel_rfl) (by as_aux_lemma => kernel_rfl) (by as_aux_lemma => kernel_rfl) (fun _ _ _ h => h) (Or.inl ⟨by rfl, ?_⟩) (by assumption) ?_
                · intro wq hSw
                  go_simp
                  try with_reducible rfl
                simp only [Act.put, List.setIfInBounds_toArray, List.set_cons_zero, List.set_cons_succ]
                refine wpAnyH_take (i := 16) (oi := { dst := some 83, op := Op.load 3 (Operand.tmp 82), type := 3, pos := "ref.go:62", after := #[{ on := 15, ground := Ground.data }], guard := none }) (v := .int .i64 r3) rfl (by as_aux_lemma => kernel_rfl) (by as_aux_lemma => kernel_rfl) (by as_aux_lemma => kernel_rfl) (fun _ _ _ h => h) (Or.inl ⟨by rfl, ?_⟩) (by assumption) ?_
                · intro wq hSw
                  have y9 := hSw.cell 9 _ rfl
                  go_simp
                  try with_reducible rfl
                simp only [Act.put, List.setIfInBounds_toArray, List.set_cons_zero, List.set_cons_succ]
                refine wpAnyH_ready (rs := [5]) (by as_aux_lemma => kernel_rfl) (by simp) ?_
                refine AllReadyH.cons (o := { dst := some 72, op := Op.call { callee := Callee.value (Operand.func 30), args := #[Operand.tmp 71], argTypes := #[3] }, type := 9, pos := "ref.go:62", after := #[{ on := 4, ground := Ground.data }], guard := none }) rfl (fun K2 hK => ?_) AllReadyH.nil
                go_simp
                go_at_call 30
                refine (decimal_nn r1 HRR.out.1 WD).mono ?_
                rintro e60 u60 ⟨rfl, hb60⟩
                have HK60 : Hid (Bl RB [.int .i64 3, .int .i64 0, .int .i64 t, .int .i64 i, .int .i64 c, .bool false, .int .i64 r0, .int .i64 r1, .int .i64 r2, .int .i64 r3, .int .i64 r4, .int .i64 r5, .slice A L.length cap] u60 ∧ Below w.heap.size w u60) := Lib.hid ⟨HB5.out.1.below hb60, Below.step HB5.out.2 hb60⟩
                clear hb60
                refine hK.out _ _ (HK60.out.1) (fun _ => ?_)
                clear hK K2
                try simp only [Act.put, List.setIfInBounds_toArray, List.set_cons_zero, List.set_cons_succ]
                refine wpAnyH_take (i := 6) (oi := { dst := some 73, op := Op.binOp BinOp.add 9 (Operand.tmp 68) (Operand.tmp 72) 9, type := 9, pos := "ref.go:62", after := #[{ on := 1, ground := Ground.data }, { on := 5, ground := Ground.data }], guard := none }) (v := .string ((Bs S3 ++ ⟨#[32]⟩) ++ Bs (dcl r1.toNat))) rfl (by as_aux_lemma => kernel_rfl) (by as_aux_lemma => kernel_rfl) (by as_aux_lemma => kernel_rfl) (fun _ _ _ h => h) (Or.inl ⟨by rfl, ?_⟩) (by assumption) ?_
                · intro wq hSw
                  have hsz := HSZ.out
                  obtain ⟨hz1, hz2, hz3, hz4, hz5, hz6, hz7⟩ := hsz
                  go_simp
                  try first | with_reducible rfl | omega | rw [if_neg (by omega)] | (simp only [ByteArray.size_append, Bs_size]; omega)
                simp only [Act.put, List.setIfInBounds_toArray, List.set_cons_zero, List.set_cons_succ]
                refine wpAnyH_take (i := 7) (oi := { dst := some 74, op := Op.binOp BinOp.add 9 (Operand.tmp 73) (Operand.const (Value.string { data := #[32] })) 9, type := 9, pos := "ref.go:62", after := #[{ on := 6, ground := Ground.data }], guard := none }) (v := .string (((Bs S3 ++ ⟨#[32]⟩) ++ Bs (dcl r1.toNat)) ++ ⟨#[32]⟩)) rfl (by as_aux_lemma => kernel_rfl) (by as_aux_lemma => kernel_rfl) (by as_aux_lemma => kernel_rfl) (fun _ _ _ h => h) (Or.inl ⟨by rfl, ?_⟩) (by assumption) ?_
                · intro wq hSw
                  have hsz := HSZ.out
                  obtain ⟨hz1, hz2, hz3, hz4, hz5, hz6, hz7⟩ := hsz
                  go_simp
                  try first | with_reducible rfl | omega | rw [if_neg (by omega)] | (simp only [ByteArray.size_append, Bs_size]; omega)
                simp only [Act.put, List.setIfInBounds_toArray, List.set_cons_zero, List.set_cons_succ]
                refine wpAnyH_ready (rs := [11]) (by as_aux_lemma => kernel_rfl) (by simp) ?_
                refine AllReadyH.cons (o := { dst := some 78, op := Op.call { callee := Callee.value (Operand.func 30), args := #[Operand.tmp 77], argTypes := #[3] }, type := 9, pos := "ref.go:62", after := #[{ on := 10, ground := Ground.data }, { on := 5, ground := Ground.chain }], guard := none }) rfl (fun K2 hK => ?_) AllReadyH.nil
                go_simp
                go_at_call 30
                refine (decimal_nn r2 HRR.out.2.1 u60).mono ?_
                rintro e61 u61 ⟨rfl, hb61⟩
                have HK61 : Hid (Bl RB [.int .i64 3, .int .i64 0, .int .i64 t, .int .i64 i, .int .i64 c, .bool false, .int .i64 r0, .int .i64 r1, .int .i64 r2, .int .i64 r3, .int .i64 r4, .int .i64 r5, .slice A L.length cap] u61 ∧ Below w.heap.size w u61) := Lib.hid ⟨HK60.out.1.below hb61, Below.step HK60.out.2 hb61⟩
                clear hb61
                refine hK.out _ _ (HK61.out.1) (fun _ => ?_)
                clear hK K2
                try simp only [Act.put, List.setIfInBounds_toArray, List.set_cons_zero, List.set_cons_succ]
                refine wpAnyH_take (i := 12) (oi := { dst := some 79, op := Op.binOp BinOp.add 9 (Operand.tmp 74) (Operand.tmp 78) 9, type := 9, pos := "ref.go:62", after := #[{ on := 7, ground := Ground.data }, { on := 11, ground := Ground.data }], guard := none }) (v := .string ((((Bs S3 ++ ⟨#[32]⟩) ++ Bs (dcl r1.toNat)) ++ ⟨#[32]⟩) ++ Bs (dcl r2.toNat))) rfl (by as_aux_lemma => kernel_rfl) (by as_aux_lemma => kernel_rfl) (by as_aux_lemma => kernel_rfl) (fun _ _ _ h => h) (Or.inl ⟨by rfl, ?_⟩) (by assumption) ?_
                · intro wq hSw
                  have hsz := HSZ.out
                  obtain ⟨hz1, hz2, hz3, hz4, hz5, hz6, hz7⟩ := hsz
                  go_simp
                  try first | with_reducible rfl | omega | rw [if_neg (by omega)] | (simp only [ByteArray.size_append, Bs_size]; omega)
                simp only [Act.put, List.setIfInBounds_toArray, List.set_cons_zero, List.set_cons_succ]
                refine wpAnyH_take (i := 13) (oi := { dst := some 80, op := Op.binOp BinOp.add 9 (Operand.tmp 79) (Operand.const (Value.string { data := #[32] })) 9, type := 9, pos := "ref.go:62", after := #[{ on := 12, ground := Ground.data }], guard := none }) (v := .string (((((Bs S3 ++ ⟨#[32]⟩) ++ Bs (dcl r1.toNat)) ++ ⟨#[32]⟩) ++ Bs (dcl r2.toNat)) ++ ⟨#[32]⟩)) rfl (by as_aux_lemma => kernel_rfl) (by as_aux_lemma => kernel_rfl) (by as_aux_lemma => kernel_rfl) (fun _ _ _ h => h) (Or.inl ⟨by rfl, ?_⟩) (by assumption) ?_
                · intro wq hSw
                  have hsz := HSZ.out
                  obtain ⟨hz1, hz2, hz3, hz4, hz5, hz6, hz7⟩ := hsz
                  go_simp
                  try first | with_reducible rfl | omega | rw [if_neg (by omega)] | (simp only [ByteArray.size_append, Bs_size]; omega)
                simp only [Act.put, List.setIfInBounds_toArray, List.set_cons_zero, List.set_cons_succ]
                refine wpAnyH_ready (rs := [17]) (by as_aux_lemma => kernel_rfl) (by simp) ?_
                refine AllReadyH.cons (o := { dst := some 84, op := Op.call { callee := Callee.value (Operand.func 30), args := #[Operand.tmp 83], argTypes := #[3] }, type := 9, pos := "ref.go:62", after := #[{ on := 16, ground := Ground.data }, { on := 11, ground := Ground.chain }], guard := none }) rfl (fun K2 hK => ?_) AllReadyH.nil
                go_simp
                go_at_call 30
                refine (decimal_nn r3 HRR.out.2.2 u61).mono ?_
                rintro e62 u62 ⟨rfl, hb62⟩
                have HK62 : Hid (Bl RB [.int .i64 3, .int .i64 0, .int .i64 t, .int .i64 i, .int .i64 c, .bool false, .int .i64 r0, .int .i64 r1, .int .i64 r2, .int .i64 r3, .int .i64 r4, .int .i64 r5, .slice A L.length cap] u62 ∧ Below w.heap.size w u62) := Lib.hid ⟨HK61.out.1.below hb62, Below.step HK61.out.2 hb62⟩
                clear hb62
                refine hK.out _ _ (HK62.out.1) (fun _ => ?_)
                clear hK K2
                try simp only [Act.put, List.setIfInBounds_toArray, List.set_cons_zero, List.set_cons_succ]
                refine wpAnyH_take (i := 18) (oi := { dst := some 85, op := Op.binOp BinOp.add 9 (Operand.tmp 80) (Operand.tmp 84) 9, type := 9, pos := "ref.go:62", after := #[{ on := 13, ground := Ground.data }, { on := 17, ground := Ground.data }], guard := none }) (v := .string ((((((Bs S3 ++ ⟨#[32]⟩) ++ Bs (dcl r1.toNat)) ++ ⟨#[32]⟩) ++ Bs (dcl r2.toNat)) ++ ⟨#[32]⟩) ++ Bs (dcl r3.toNat))) rfl (by as_aux_lemma => kernel_rfl) (by as_aux_lemma => kernel_rfl) (by as_aux_lemma => kernel_rfl) (fun _ _ _ h => h) (Or.inl ⟨by rfl, ?_⟩) (by assumption) ?_
                · intro wq hSw
                  have hsz := HSZ.out
                  obtain ⟨hz1, hz2, hz3, hz4, hz5, hz6, hz7⟩ := hsz
                  go_simp
                  try first | with_reducible rfl | omega | rw [if_neg (by omega)] | (simp only [ByteArray.size_append, Bs_size]; omega)
                simp only [Act.put, List.setIfInBounds_toArray, List.set_cons_zero, List.set_cons_succ]
                refine wpAnyH_take (i := 19) (oi := { dst := some 3, op := Op.assign (Operand.tmp 85), type := 9, pos := "ref.go:62", after := #[{ on := 18, ground := Ground.data }, { on := 17, ground := Ground.chain }, { on := 0, ground := Ground.phase }, { on := 1, ground := Ground.phase }, { on := 2, ground := Ground.phase }, { on := 3, ground := Ground.phase }, { on := 4, ground := Ground.phase }, { on := 5, ground := Ground.phase }, { on := 6, ground := Ground.phase }, { on := 7, ground := Ground.phase }, { on := 8, ground := Ground.phase }, { on := 9, ground := Ground.phase }, { on := 10, ground := Ground.phase }, { on := 11, ground := Ground.phase }, { on := 12, ground := Ground.phase }, { on := 13, ground := Ground.phase }, { on := 14, ground := Ground.phase }, { on := 15, ground := Ground.phase }, { on := 16, ground := Ground.phase }, { on := 17, ground := Ground.phase }, { on := 18, ground := Ground.phase }], guard := none }) (v := .string ((((((Bs S3 ++ ⟨#[32]⟩) ++ Bs (dcl r1.toNat)) ++ ⟨#[32]⟩) ++ Bs (dcl r2.toNat)) ++ ⟨#[32]⟩) ++ Bs (dcl r3.toNat))) rfl (by as_aux_lemma => kernel_rfl) (by as_aux_lemma => kernel_rfl) (by as_aux_lemma => kernel_rfl) (fun _ _ _ h => h) (Or.inl ⟨by rfl, ?_⟩) (by assumption) ?_
                · intro wq hSw
                  go_simp
                  try with_reducible rfl
                simp only [Act.put, List.setIfInBounds_toArray, List.set_cons_zero, List.set_cons_succ]
                refine wpAnyH_done (by as_aux_lemma => kernel_rfl) ?_ _
                go_wp2_with fail
                go_ret
                refine ⟨?_, HK62.out.2⟩
                rw [HAW.out, HT.out]
                show Ending.returned (Value.string ((((((Bs S3 ++ ⟨#[32]⟩) ++ Bs (dcl r1.toNat)) ++ ⟨#[32]⟩) ++ Bs (dcl r2.toNat)) ++ ⟨#[32]⟩) ++ Bs (dcl r3.toNat))) = _
                rw [Bs_sp, Bs_sp, Bs_sp, HS3.out]
                refine congrArg (fun l => Ending.returned (Value.string (Bs l))) ?_
                unfold jt
                simp
            · have HT : Hid (tl_ ⟨4, 0, t, i, c, false, r0, r1, r2, r3, r4, r5, L⟩ = L.flatMap lw) := Lib.hid (by unfold tl_; simp)
              have HLR : Hid (∀ x ∈ L, lkR x = true) := Lib.hid (by
                rcases HRT.out.look with h | ⟨_, _, h⟩
                · have h9 : L = [] := h
                  rw [h9]; simp
                · exact h)
              have HM0 : Hid (Bl RB [.int .i64 4, .int .i64 0, .int .i64 t, .int .i64 i, .int .i64 c, .bool false, .int .i64 r0, .int .i64 r1, .int .i64 r2, .int .i64 r3, .int .i64 r4, .int .i64 r5, .slice A L.length cap] wc ∧ Below w.heap.size w wc) := HB1
              skip
              go_wp2_with fail
              go_loopw [3, 4] (fun v j wr => ∃ n : Nat, n ≤ L.length ∧ v = .string (Bs (S ++ jt ((L.take n).flatMap lw))) ∧ j = .int .i64 (n : Int) ∧ Hid (Bl RB [.int .i64 4, .int .i64 0, .int .i64 t, .int .i64 i, .int .i64 c, .bool false, .int .i64 r0, .int .i64 r1, .int .i64 r2, .int .i64 r3, .int .i64 r4, .int .i64 r5, .slice A L.length cap] wr ∧ Below w.heap.size w wr)) (fun _ j _ => L.length + 1 - (intOf j).toNat)
              case atStart => exact ⟨0, Nat.zero_le _, by simp [jt], rfl, HM0⟩
              case round =>
                clear y0 y1 y5 HM0
                obtain ⟨n, hn, rfl, rfl, HM⟩ := hrel
                have i0 : (0 : Int) ≤ (n : Int) := by omega
                have y12 := HM.out.1.cell 12 _ rfl
                by_cases hlt : n < L.length
                · obtain ⟨x, hx⟩ : ∃ x, L[n]? = some x := ⟨_, List.getElem?_eq_getElem hlt⟩
                  have ha := lkR_out (HLR.out x (List.mem_of_getElem? hx))
                  obtain ⟨ad, hA, hb, hc⟩ := (HLK.out.below HM.out.2) (by omega)
                  obtain ⟨d0, d1', d2'⟩ := hc n _ hx
                  have hXX : jt ((L.take (n + 1)).flatMap lw) = jt ((L.take n).flatMap lw) ++ jt (lw x) := by
                    rw [List.take_add_one, hx, List.flatMap_append]
                    unfold jt
                    simp
                  have hle : (jt ((L.take n).flatMap lw)).length ≤ (jt (L.flatMap lw)).length := by
                    have e := congrArg (fun l => (jt (l.flatMap lw)).length) (List.take_append_drop n L)
                    simp only [List.flatMap_append] at e
                    rw [← e]
                    unfold jt
                    rw [List.flatMap_append, List.length_append]
                    omega
                  subst hA
                  obtain ⟨xk, xl, xf⟩ := x
                  simp only at ha d0 d1' d2' hXX
                  have d1 : wr.cell? ⟨(ad.add (n * 3)).block, (ad.add (n * 3)).off + 1, none⟩ = some (.int .i64 xl) := by
                    rw [← addp _ 1 (by decide) (World.cell?_spot d0), add_of_add]; exact d1'
                  have d2 : wr.cell? ⟨(ad.add (n * 3)).block, (ad.add (n * 3)).off + 2, none⟩ = some (.int .i64 xf) := by
                    rw [← addp _ 2 (by decide) (World.cell?_spot d0), add_of_add]; exact d2'
                  have q1 : (n : Int) < (L.length : Int) := by omega
                  have Hi := Lib.hid hlt
                  have HXK := Lib.hid ha
                  have HXB : Hid ((0 ≤ xl ∧ xl ≤ 9223372036854775807) ∧ (0 ≤ xf ∧ xf ≤ 9223372036854775807)) := Lib.hid (by omega)
                  have HXX := Lib.hid hXX
                  obtain ⟨S3, hS3⟩ : ∃ S3, S3 = S ++ jt ((L.take n).flatMap lw) := ⟨_, rfl⟩
                  have HSZ : Hid ((Bs S3).size = S3.length ∧ S3.length ≤ 100000 ∧ (ln xk).length ≤ 9 ∧ (dcl xl.toNat).length ≤ 19 ∧ (dcl xf.toNat).length ≤ 19 ∧ True ∧ True) := Lib.hid ⟨Bs_size _, by
                    rw [hS3, List.length_append]
                    have h1 := HSL.out
                    rw [HT.out] at h1
                    omega, by rcases ha.1 with h | h | h | h | h | h <;> rw [h] <;> decide, dcl_int_len (by have := HXB.out; omega), dcl_int_len (by have := HXB.out; omega), trivial, trivial⟩
                  rw [← hS3]
                  have HS3 := Lib.hid hS3
                  have gA : Below wr.heap.size wr (wr.alloc (.cells (List.toArray [.int .i64 xk, .int .i64 xl, .int .i64 xf]) 53)) := by go_grown
                  have bA := Bl.new wr [.int .i64 xk, .int .i64 xl, .int .i64 xf] 53
                  obtain ⟨WL, hWL⟩ : ∃ WL, WL = (wr.alloc (.cells (List.toArray [.int .i64 xk, .int .i64 xl, .int .i64 xf]) 53)) := ⟨_, rfl⟩
                  obtain ⟨LB, hLB⟩ : ∃ LB, LB = wr.heap.size := ⟨_, rfl⟩
                  rw [← hWL] at gA bA
                  rw [← hLB] at bA
                  have HLB : Hid ((Bl LB [.int .i64 xk, .int .i64 xl, .int .i64 xf] WL ∧ Bl RB [.int .i64 4, .int .i64 0, .int .i64 t, .int .i64 i, .int .i64 c, .bool false, .int .i64 r0, .int .i64 r1, .int .i64 r2, .int .i64 r3, .int .i64 r4, .int .i64 r5, .slice (some ad) L.length cap] WL) ∧ Below w.heap.size w WL) := Lib.hid ⟨⟨bA, HM.out.1.below gA⟩, Below.step HM.out.2 gA⟩
                  have HGA : Hid (Below wr.heap.size wr WL) := Lib.hid gA
                  have HWE2 := Lib.hid hWL
                  have HLE2 := Lib.hid hLB
                  clear hS3 hx hb hc d1' d2' hlt hn gA bA hWL hLB hXX hle ha hbs hsl
                  go_upto_region 21 with fail
                  rw [← HWE2.out, ← HLE2.out]
                  clear d0 d1 d2 y12
                  have gd : Below WL.heap.size WL WL.drew := (Below.refl _ _).drew
                  have HB5 : Hid ((Bl LB [.int .i64 xk, .int .i64 xl, .int .i64 xf] WL.drew ∧ Bl RB [.int .i64 4, .int .i64 0, .int .i64 t, .int .i64 i, .int .i64 c, .bool false, .int .i64 r0, .int .i64 r1, .int .i64 r2, .int .i64 r3, .int .i64 r4, .int .i64 r5, .slice (some ad) L.length cap] WL.drew) ∧ Below w.heap.size w WL.drew) := Lib.hid ⟨⟨HLB.out.1.1.below gd, HLB.out.1.2.below gd⟩, Below.step HLB.out.2 gd⟩
                  clear gd
                  refine wp_region_held_drew (S := fun w' => (Bl LB [.int .i64 xk, .int .i64 xl, .int .i64 xf] w' ∧ Bl RB [.int .i64 4, .int .i64 0, .int .i64 t, .int .i64 i, .int .i64 c, .bool false, .int .i64 r0, .int .i64 r1, .int .i64 r2, .int .i64 r3, .int .i64 r4, .int .i64 r5, .slice (some ad) L.length cap] w')) (by kernel_rfl) HB5.out.1 (fun hHeld => ?_)
                  generalize WL.drew = WD at HB5 hHeld ⊢
                  refine wpAnyH_take (i := 0) (oi := { dst := some 99, op := Op.move (Operand.tmp 3), type := 9, pos := "ref.go:68", after := #[], guard := none }) (v := .string (Bs S3)) rfl (by as_aux_lemma => kernel_rfl) (by as_aux_lemma => kernel_rfl) (by as_aux_lemma => kernel_rfl) (fun _ _ _ h => h) (Or.inl ⟨by rfl, ?_⟩) (by assumption) ?_
                  · intro wq hSw
                    go_simp
                    try with_reducible rfl
                  simp only [Act.put, List.setIfInBounds_toArray, List.set_cons_zero, List.set_cons_succ]
                  refine wpAnyH_take (i := 1) (oi := { dst := some 100, op := Op.binOp BinOp.add 9 (Operand.tmp 99) (Operand.const (Value.string { data := #[32] })) 9, type := 9, pos := "ref.go:68", after := #[{ on := 0, ground := Ground.data }], guard := none }) (v := .string (Bs S3 ++ ⟨#[32]⟩)) rfl (by as_aux_lemma => kernel_rfl) (by as_aux_lemma => kernel_rfl) (by as_aux_lemma => kernel_rfl) (fun _ _ _ h => h) (Or.inl ⟨by rfl, ?_⟩) (by assumption) ?_
                  · intro wq hSw
                    have hsz := HSZ.out
                    obtain ⟨hz1, hz2, hz3, hz4, hz5, hz6, hz7⟩ := hsz
                    go_simp
                    try first | with_reducible rfl | omega | rw [if_neg (by omega)] | (simp only [ByteArray.size_append, Bs_size]; omega)
                  simp only [Act.put, List.setIfInBounds_toArray, List.set_cons_zero, List.set_cons_succ]
                  refine wpAnyH_take (i := 2) (oi := { dst := some 101, op := Op.fieldAddr 53 (Operand.tmp 5) 0, type := 0, pos := "ref.go:68", after := #[], guard := none }) (v := .pointer (some ⟨LB, 0, none⟩)) rfl (by as_aux_lemma => kernel_rfl) (by as_aux_lemma => kernel_rfl) (by as_aux_lemma => kernel_rfl) (fun _ _ _ h => h) (Or.inl ⟨by rfl, ?_⟩) (by assumption) ?_
                  · intro wq hSw
                    go_simp
                    try with_reducible rfl
                  simp only [Act.put, List.setIfInBounds_toArray, List.set_cons_zero, List.set_cons_succ]
                  refine wpAnyH_take (i := 3) (oi := { dst := some 102, op := Op.load 3 (Operand.tmp 101), type := 3, pos := "ref.go:68", after := #[{ on := 2, ground := Ground.data }], guard := none }) (v := .int .i64 xk) rfl (by as_aux_lemma => kernel_rfl) (by as_aux_lemma => kernel_rfl) (by as_aux_lemma => kernel_rfl) (fun _ _ _ h => h) (Or.inl ⟨by rfl, ?_⟩) (by assumption) ?_
                  · intro wq hSw
                    have y0 := hSw.1.cell 0 _ rfl
                    go_simp
                    try with_reducible rfl
                  simp only [Act.put, List.setIfInBounds_toArray, List.set_cons_zero, List.set_cons_succ]
                  refine wpAnyH_take (i := 7) (oi := { dst := some 106, op := Op.fieldAddr 53 (Operand.tmp 5) 1, type := 0, pos := "ref.go:68", after := #[], guard := none }) (v := .pointer (some ⟨LB, 1, none⟩)) rfl (by as_aux_lemma => kernel_rfl) (by as_aux_lemma => kernel_rfl) (by as_aux_lemma => kernel_rfl) (fun _ _ _ h => h) (Or.inl ⟨by rfl, ?_⟩) (by assumption) ?_
                  · intro wq hSw
                    go_simp
                    try with_reducible rfl
                  simp only [Act.put, List.setIfInBounds_toArray, List.set_cons_zero, List.set_cons_succ]
                  refine wpAnyH_take (i := 8) (oi := { dst := some 107, op := Op.load 3 (Operand.tmp 106), type := 3, pos := "ref.go:68", after := #[{ on := 7, ground := Ground.data }], guard := none }) (v := .int .i64 xl) rfl (by as_aux_lemma => kernel_rfl) (by as_aux_lemma => kernel_rfl) (by as_aux_lemma => kernel_rfl) (fun _ _ _ h => h) (Or.inl ⟨by rfl, ?_⟩) (by assumption) ?_
                  · intro wq hSw
                    have y1 := hSw.1.cell 1 _ rfl
                    go_simp
                    try with_reducible rfl
                  simp only [Act.put, List.setIfInBounds_toArray, List.set_cons_zero, List.set_cons_succ]
                  refine wpAnyH_take (i := 12) (oi := { dst := some 111, op := Op.fieldAddr 53 (Operand.tmp 5) 2, type := 0, pos := "ref.go:68", after := #[], guard := none }) (v := .pointer (some ⟨LB, 2, none⟩)) rfl (by as_aux_lemma => kernel_rfl) (by as_aux_lemma => kernel_rfl) (by as_aux_lemma => kernel_rfl) (fun _ _ _ h => h) (Or.inl ⟨by rfl, ?_⟩) (by assumption) ?_
                  · intro wq hSw
                    go_simp
                    try with_reducible rfl
                  simp only [Act.put, List.setIfInBounds_toArray, List.set_cons_zero, List.set_cons_succ]
                  refine wpAnyH_take (i := 13) (oi := { dst := some 112, op := Op.load 3 (Operand.tmp 111), type := 3, pos := "ref.go:68", after := #[{ on := 12, ground := Ground.data }], guard := none }) (v := .int .i64 xf) rfl (by as_aux_lemma => kernel_rfl) (by as_aux_lemma => kernel_rfl) (by as_aux_lemma => kernel_rfl) (fun _ _ _ h => h) (Or.inl ⟨by rfl, ?_⟩) (by assumption) ?_
                  · intro wq hSw
                    have y2 := hSw.1.cell 2 _ rfl
                    go_simp
                    try with_reducible rfl
                  simp only [Act.put, List.setIfInBounds_toArray, List.set_cons_zero, List.set_cons_succ]
                  refine wpAnyH_ready (rs := [4]) (by as_aux_lemma => kernel_rfl) (by simp) ?_
                  refine AllReadyH.cons (o := { dst := some 103, op := Op.call { callee := Callee.value (Operand.func 32), args := #[Operand.tmp 102], argTypes := #[3] }, type := 9, pos := "ref.go:68", after := #[{ on := 3, ground := Ground.data }], guard := none }) rfl (fun K2 hK => ?_) AllReadyH.nil
                  go_simp
                  go_at_call 32
                  refine (refln_is xk HXK.out.1 WD).mono ?_
                  rintro e60 u60 ⟨rfl, hb60⟩
                  have HK60 : Hid ((Bl LB [.int .i64 xk, .int .i64 xl, .int .i64 xf] u60 ∧ Bl RB [.int .i64 4, .int .i64 0, .int .i64 t, .int .i64 i, .int .i64 c, .bool false, .int .i64 r0, .int .i64 r1, .int .i64 r2, .int .i64 r3, .int .i64 r4, .int .i64 r5, .slice (some ad) L.length cap] u60) ∧ Below w.heap.size w u60) := Lib.hid ⟨⟨HB5.out.1.1.below hb60, HB5.out.1.2.below hb60⟩, Below.step HB5.out.2 hb60⟩
                  clear hb60
                  refine hK.out _ _ (HK60.out.1) (fun _ => ?_)
                  clear hK K2
                  try simp only [Act.put, List.setIfInBounds_toArray, List.set_cons_zero, List.set_cons_succ]
                  refine wpAnyH_take (i := 5) (oi := { dst := some 104, op := Op.binOp BinOp.add 9 (Operand.tmp 100) (Operand.tmp 103) 9, type := 9, pos := "ref.go:68", after := #[{ on := 1, ground := Ground.data }, { on := 4, ground := Ground.data }], guard := none }) (v := .string ((Bs S3 ++ ⟨#[32]⟩) ++ Bs (ln xk))) rfl (by as_aux_lemma => kernel_rfl) (by as_aux_lemma => kernel_rfl) (by as_aux_lemma => kernel_rfl) (fun _ _ _ h => h) (Or.inl ⟨by rfl, ?_⟩) (by assumption) ?_
                  · intro wq hSw
                    have hsz := HSZ.out
                    obtain ⟨hz1, hz2, hz3, hz4, hz5, hz6, hz7⟩ := hsz
                    go_simp
                    try first | with_reducible rfl | omega | rw [if_neg (by omega)] | (simp only [ByteArray.size_append, Bs_size]; omega)
                  simp only [Act.put, List.setIfInBounds_toArray, List.set_cons_zero, List.set_cons_succ]
                  refine wpAnyH_take (i := 6) (oi := { dst := some 105, op := Op.binOp BinOp.add 9 (Operand.tmp 104) (Operand.const (Value.string { data := #[32] })) 9, type := 9, pos := "ref.go:68", after := #[{ on := 5, ground := Ground.data }], guard := none }) (v := .string (((Bs S3 ++ ⟨#[32]⟩) ++ Bs (ln xk)) ++ ⟨#[32]⟩)) rfl (by as_aux_lemma => kernel_rfl) (by as_aux_lemma => kernel_rfl) (by as_aux_lemma => kernel_rfl) (fun _ _ _ h => h) (Or.inl ⟨by rfl, ?_⟩) (by assumption) ?_
                  · intro wq hSw
                    have hsz := HSZ.out
                    obtain ⟨hz1, hz2, hz3, hz4, hz5, hz6, hz7⟩ := hsz
                    go_simp
                    try first | with_reducible rfl | omega | rw [if_neg (by omega)] | (simp only [ByteArray.size_append, Bs_size]; omega)
                  simp only [Act.put, List.setIfInBounds_toArray, List.set_cons_zero, List.set_cons_succ]
                  refine wpAnyH_ready (rs := [9]) (by as_aux_lemma => kernel_rfl) (by simp) ?_
                  refine AllReadyH.cons (o := { dst := some 108, op := Op.call { callee := Callee.value (Operand.func 30), args := #[Operand.tmp 107], argTypes := #[3] }, type := 9, pos := "ref.go:68", after := #[{ on := 8, ground := Ground.data }, { on := 4, ground := Ground.chain }], guard := none }) rfl (fun K2 hK => ?_) AllReadyH.nil
                  go_simp
                  go_at_call 30
                  refine (decimal_nn xl HXB.out.1 u60).mono ?_
                  rintro e61 u61 ⟨rfl, hb61⟩
                  have HK61 : Hid ((Bl LB [.int .i64 xk, .int .i64 xl, .int .i64 xf] u61 ∧ Bl RB [.int .i64 4, .int .i64 0, .int .i64 t, .int .i64 i, .int .i64 c, .bool false, .int .i64 r0, .int .i64 r1, .int .i64 r2, .int .i64 r3, .int .i64 r4, .int .i64 r5, .slice (some ad) L.length cap] u61) ∧ Below w.heap.size w u61) := Lib.hid ⟨⟨HK60.out.1.1.below hb61, HK60.out.1.2.below hb61⟩, Below.step HK60.out.2 hb61⟩
                  clear hb61
                  refine hK.out _ _ (HK61.out.1) (fun _ => ?_)
                  clear hK K2
                  try simp only [Act.put, List.setIfInBounds_toArray, List.set_cons_zero, List.set_cons_succ]
                  refine wpAnyH_take (i := 10) (oi := { dst := some 109, op := Op.binOp BinOp.add 9 (Operand.tmp 105) (Operand.tmp 108) 9, type := 9, pos := "ref.go:68", after := #[{ on := 6, ground := Ground.data }, { on := 9, ground := Ground.data }], guard := none }) (v := .string ((((Bs S3 ++ ⟨#[32]⟩) ++ Bs (ln xk)) ++ ⟨#[32]⟩) ++ Bs (dcl xl.toNat))) rfl (by as_aux_lemma => kernel_rfl) (by as_aux_lemma => kernel_rfl) (by as_aux_lemma => kernel_rfl) (fun _ _ _ h => h) (Or.inl ⟨by rfl, ?_⟩) (by assumption) ?_
                  · intro wq hSw
                    have hsz := HSZ.out
                    obtain ⟨hz1, hz2, hz3, hz4, hz5, hz6, hz7⟩ := hsz
                    go_simp
                    try first | with_reducible rfl | omega | rw [if_neg (by omega)] | (simp only [ByteArray.size_append, Bs_size]; omega)
                  simp only [Act.put, List.setIfInBounds_toArray, List.set_cons_zero, List.set_cons_succ]
                  refine wpAnyH_take (i := 11) (oi := { dst := some 110, op := Op.binOp BinOp.add 9 (Operand.tmp 109) (Operand.const (Value.string { data := #[32] })) 9, type := 9, pos := "ref.go:68", after := #[{ on := 10, ground := Ground.data }], guard := none }) (v := .string (((((Bs S3 ++ ⟨#[32]⟩) ++ Bs (ln xk)) ++ ⟨#[32]⟩) ++ Bs (dcl xl.toNat)) ++ ⟨#[32]⟩)) rfl (by as_aux_lemma => kernel_rfl) (by as_aux_lemma => kernel_rfl) (by as_aux_lemma => kernel_rfl) (fun _ _ _ h => h) (Or.inl ⟨by rfl, ?_⟩) (by assumption) ?_
                  · intro wq hSw
                    have hsz := HSZ.out
                    obtain ⟨hz1, hz2, hz3, hz4, hz5, hz6, hz7⟩ := hsz
                    go_simp
                    try first | with_reducible rfl | omega | rw [if_neg (by omega)] | (simp only [ByteArray.size_append, Bs_size]; omega)
                  simp only [Act.put, List.setIfInBounds_toArray, List.set_cons_zero, List.set_cons_succ]
                  refine wpAnyH_ready (rs := [14]) (by as_aux_lemma => kernel_rfl) (by simp) ?_
                  refine AllReadyH.cons (o := { dst := some 113, op := Op.call { callee := Callee.value (Operand.func 30), args := #[Operand.tmp 112], argTypes := #[3] }, type := 9, pos := "ref.go:68", after := #[{ on := 13, ground := Ground.data }, { on := 9, ground := Ground.chain }], guard := none }) rfl (fun K2 hK => ?_) AllReadyH.nil
                  go_simp
                  go_at_call 30
                  refine (decimal_nn xf HXB.out.2 u61).mono ?_
                  rintro e62 u62 ⟨rfl, hb62⟩
                  have HK62 : Hid ((Bl LB [.int .i64 xk, .int .i64 xl, .int .i64 xf] u62 ∧ Bl RB [.int .i64 4, .int .i64 0, .int .i64 t, .int .i64 i, .int .i64 c, .bool false, .int .i64 r0, .int .i64 r1, .int .i64 r2, .int .i64 r3, .int .i64 r4, .int .i64 r5, .slice (some ad) L.length cap] u62) ∧ Below w.heap.size w u62) := Lib.hid ⟨⟨HK61.out.1.1.below hb62, HK61.out.1.2.below hb62⟩, Below.step HK61.out.2 hb62⟩
                  clear hb62
                  refine hK.out _ _ (HK62.out.1) (fun _ => ?_)
                  clear hK K2
                  try simp only [Act.put, List.setIfInBounds_toArray, List.set_cons_zero, List.set_cons_succ]
                  refine wpAnyH_take (i := 15) (oi := { dst := some 114, op := Op.binOp BinOp.add 9 (Operand.tmp 110) (Operand.tmp 113) 9, type := 9, pos := "ref.go:68", after := #[{ on := 11, ground := Ground.data }, { on := 14, ground := Ground.data }], guard := none }) (v := .string ((((((Bs S3 ++ ⟨#[32]⟩) ++ Bs (ln xk)) ++ ⟨#[32]⟩) ++ Bs (dcl xl.toNat)) ++ ⟨#[32]⟩) ++ Bs (dcl xf.toNat))) rfl (by as_aux_lemma => kernel_rfl) (by as_aux_lemma => kernel_rfl) (by as_aux_lemma => kernel_rfl) (fun _ _ _ h => h) (Or.inl ⟨by rfl, ?_⟩) (by assumption) ?_
                  · intro wq hSw
                    have hsz := HSZ.out
                    obtain ⟨hz1, hz2, hz3, hz4, hz5, hz6, hz7⟩ := hsz
                    go_simp
                    try first | with_reducible rfl | omega | rw [if_neg (by omega)] | (simp only [ByteArray.size_append, Bs_size]; omega)
                  simp only [Act.put, List.setIfInBounds_toArray, List.set_cons_zero, List.set_cons_succ]
                  refine wpAnyH_take (i := 16) (oi := { dst := some 3, op := Op.assign (Operand.tmp 114), type := 9, pos := "ref.go:68", after := #[{ on := 15, ground := Ground.data }, { on := 14, ground := Ground.chain }, { on := 0, ground := Ground.phase }, { on := 1, ground := Ground.phase }, { on := 2, ground := Ground.phase }, { on := 3, ground := Ground.phase }, { on := 4, ground := Ground.phase }, { on := 5, ground := Ground.phase }, { on := 6, ground := Ground.phase }, { on := 7, ground := Ground.phase }, { on := 8, ground := Ground.phase }, { on := 9, ground := Ground.phase }, { on := 10, ground := Ground.phase }, { on := 11, ground := Ground.phase }, { on := 12, ground := Ground.phase }, { on := 13, ground := Ground.phase }, { on := 14, ground := Ground.phase }, { on := 15, ground := Ground.phase }], guard := none }) (v := .string ((((((Bs S3 ++ ⟨#[32]⟩) ++ Bs (ln xk)) ++ ⟨#[32]⟩) ++ Bs (dcl xl.toNat)) ++ ⟨#[32]⟩) ++ Bs (dcl xf.toNat))) rfl (by as_aux_lemma => kernel_rfl) (by as_aux_lemma => kernel_rfl) (by as_aux_lemma => kernel_rfl) (fun _ _ _ h => h) (Or.inl ⟨by rfl, ?_⟩) (by assumption) ?_
                  · intro wq hSw
                    go_simp
                    try with_reducible rfl
                  simp only [Act.put, List.setIfInBounds_toArray, List.set_cons_zero, List.set_cons_succ]
                  refine wpAnyH_done (by as_aux_lemma => kernel_rfl) ?_ _
                  go_wp2_with fail
                  go_roundw
                  case rel =>
                    refine ⟨n + 1, Hi.out, ?_, by go_num, Lib.hid ⟨?_, HK62.out.2⟩⟩
                    · rw [HXX.out]
                      show Value.string ((((((Bs S3 ++ ⟨#[32]⟩) ++ Bs (ln xk)) ++ ⟨#[32]⟩) ++ Bs (dcl xl.toNat)) ++ ⟨#[32]⟩) ++ Bs (dcl xf.toNat)) = _
                      rw [Bs_sp, Bs_sp, Bs_sp, HS3.out]
                      refine congrArg (fun l => Value.string (Bs l)) ?_
                      unfold lw jt
                      simp
                    · exact HK62.out.1.2
                  case measure => have := Hi.out; simp [intOf]; omega
                · obtain rfl : n = L.length := by omega
                  have q5 : decide ((L.length : Int) < (L.length : Int)) = false := decide_eq_false (by omega)
                  clear hn hlt
                  go_wp2_with fail
                  go_ret
                  refine ⟨?_, HM.out.2⟩
                  rw [HAW.out, HT.out, List.take_length]
                  rfl
        · have q1 : (cd != 0) = true := bne_iff_ne.2 hcd
          have q2 : (cd == 0) = false := beq_eq_false_iff_ne.2 hcd
          have HT : Hid (tl_ ⟨k, cd, t, i, c, ask, r0, r1, r2, r3, r4, r5, L⟩ = [wErr, dcl cd.toNat]) := Lib.hid (by unfold tl_; rw [if_pos hcd])
          have HN : Hid (0 ≤ cd ∧ cd ≤ 9223372036854775807) := Lib.hid ⟨HRT.out.cd, HCD.out⟩
          clear hcd
          have hdcd : (Bs (dcl cd.toNat)).size = (dcl cd.toNat).length := Bs_size _
          have hlcd : (dcl cd.toNat).length ≤ 19 := dcl_int_len (by have := HN.out; omega)
          go_wp2_with fail
          refine (decimal_nn cd HN.out _).mono ?_
          rintro e7 w7 ⟨rfl, hb7⟩
          have HB2 := Lib.hid (Below.step HB1.out.2 hb7)
          clear hb7
          go_wp2_with fail
          go_ret
          refine ⟨?_, HB2.out⟩
          rw [HAW.out, HT.out]
          have e9 : (⟨#[32, 101, 114, 114, 111, 114, 32]⟩ : ByteArray) = Bs (32 :: wErr ++ [32]) := rfl
          show Ending.returned (Value.string (Bs S ++ _ ++ Bs (dcl cd.toNat))) = _
          rw [e9, Bs_append, Bs_append]
          refine congrArg (fun l => Ending.returned (Value.string (Bs l))) ?_
          unfold jt
          simp

end Go.Proofs.YtinciphhoieonaaGreatDoor

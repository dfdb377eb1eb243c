/-
  A row that stands in another, in order.
-/
import Derived.Test.YtfdjbhlpkfbgnaaRows
import Derived.Test.YtfdjbhlpkfbgnaaKit
import Derived.Test.YtfdjbhlpkfbgnaaApp
import Derived.Test.YtfdjbhlpkfbgnaaQuiet
import Derived.Test.YtfdjbhlpkfbgnaaShM
import Derived.Test.YtfdjbhlpkfbgnaaShO
import Derived.Test.YtfdjbhlpkfbgnaaShB
import Derived.Test.YtfdjbhlpkfbgnaaShC
import Derived.Test.YtfdjbhlpkfbgnaaShD
import Derived.Test.YtfdjbhlpkfbgnaaShZ
import Derived.WalkKit
import Derived.ProofKit
import Derived.OpenShut
import Derived.ShutString
import Derived.Below
import Derived.Outline
import Derived.WalkLawsBesides
import Derived.WalkSpells
import Derived.Handy
import Derived.Deep.QuietTactic
import Derived.BigQuiet
import Derived.RegionTactic
import Derived.ChangeAlike
import Derived.Lib.Hide
import Derived.Laws.Rows
import Derived.Laws.Tables
import Derived.Laws.CopyOwn
import Derived.Laws.MakeOwn
import Derived.Laws.Entries
import Derived.Laws.OwnMore
import Derived.Deep.WholeRow
import Derived.Deep.LoopGhost
import Derived.Deep.AppendLies
import Derived.Deep.Draws
import Derived.Maps.AppendAt
import Derived.OwnWalk
import Derived.Deep.RegionHeld3
import Derived.Deep.Cut
import Derived.Deep.CutRange
import Derived.Deep.DeepCutAuto
import Derived.Deep.CutBlock
import Derived.Lib.SliceRun
import Derived.IntWalk
namespace Go.Proofs.Ytfdjbhlpkfbgnaa
open Go.ChangeShapes Go.WideShapes Go.ChangeAt Go.RowKit
theorem evn_ext (a e : Evn) (hk : a.k = e.k) (hw : a.w = e.w) (hn : a.n = e.n) (hak : a.ak = e.ak) (hai : a.ai = e.ai) (hac : a.ac = e.ac) (han : a.an = e.an) (hsd : a.sd = e.sd) (hap : a.ap = e.ap) (hal : a.al = e.al) (hau : a.au = e.au) (haq : a.aq = e.aq) : a = e := by
  cases a
  cases e
  simp_all
theorem sub_eq {a e : Evn} {r s : List Evn} (h : (a :: r).Sublist (e :: s)) : (a = e → r.Sublist s) ∧ (a ≠ e → (a :: r).Sublist s) := by
  refine ⟨fun he => ?_, fun he => ?_⟩
  · subst he
    exact List.cons_sublist_cons.1 h
  · cases h with
    | cons _ h => exact h
    | cons_cons _ h => exact absurd rfl he
set_option maxRecDepth 100000 in
set_option maxHeartbeats 2000000 in
theorem row_is (bx N cx bl M cl : Nat) (Ax Al : Option Addr) (x l : List Evn) (w : World) (hx : w.ownsRow bx 38 12 (.slice Ax N cx) N (nv x)) (hN : N = x.length) (hl : w.ownsRow bl 38 12 (.slice Al M cl) M (nv l)) (hM : M = l.length) (hn : N ≤ 60) (hm : M ≤ 60) (hs : x.Sublist l) : Calls Try.prog 12 #[.slice Ax N cx, .slice Al M cl] w fun e w' => e = .returned (.bool true) ∧ Below w.heap.size w w' := by
  have HX := Lib.hid hx
  have HL := Lib.hid hl
  have HN := Lib.hid hN
  have HM := Lib.hid hM
  have HS0 := Lib.hid hs
  have m0 : (M : Int) ≤ 60 := by omega
  have n0 : (N : Int) ≤ 60 := by omega
  clear hx hl hN hM hs
  go_enter Try.func12, Try.ntmps12
  go_wp2_with fail
  go_loopw [5, 7, 10] (fun iv _ kv wr => ∃ (i k : Nat), i ≤ N ∧ k ≤ M ∧ iv = .int .i64 (i : Int) ∧ kv = .int .i64 (k : Int) ∧ Hid ((x.drop i).Sublist (l.drop k) ∧ Below w.heap.size w wr)) (fun _ _ kv _ => M + 1 - (intOf kv).toNat)
  case atStart => exact ⟨0, 0, Nat.zero_le _, Nat.zero_le _, rfl, rfl, Lib.hid ⟨HS0.out, Below.refl _ _⟩⟩
  case round =>
    obtain ⟨i, k, hi, hk, rfl, rfl, HS⟩ := hrel
    clear HS0
    have k0 : (0 : Int) ≤ (k : Int) := by omega
    have i0 : (0 : Int) ≤ (i : Int) := by omega
    by_cases hkM : k < M
    · have k1 : (k : Int) < (M : Int) := by omega
      obtain ⟨e, he⟩ : ∃ e, l[k]? = some e := ⟨_, List.getElem?_eq_getElem (by rw [← HM.out]; exact hkM)⟩
      have hrl := rkept HL.out HS.out.2
      obtain ⟨gl, cpl, hvl, hgl, _⟩ := World.ownsRow.form hrl (by omega)
      obtain ⟨rfl, rfl⟩ : Al = some ⟨gl, 0, none⟩ ∧ cpl = cl := by
        injection hvl with h1 h2 h3
        exact ⟨h1, h3.symm⟩
      have hle : ∀ (j : Nat) (u : Value), j < 12 → (nc e)[j]? = some u → wr.cell? ⟨gl, k * 12 + j, none⟩ = some u := fun j u hj hu => erow_cell hrl he HM.out hj hu
      have e0 : wr.cell? ⟨gl, k * 12, none⟩ = some (.int .i64 e.k) := hle 0 _ (by omega) rfl
      have e1 : wr.cell? ⟨gl, k * 12 + 1, none⟩ = some (.int .i64 e.w) := hle 1 _ (by omega) rfl
      have e2 : wr.cell? ⟨gl, k * 12 + 2, none⟩ = some (.int .i64 e.n) := hle 2 _ (by omega) rfl
      have e3 : wr.cell? ⟨gl, k * 12 + 3, none⟩ = some (.int .i64 e.ak) := hle 3 _ (by omega) rfl
      have e4 : wr.cell? ⟨gl, k * 12 + 4, none⟩ = some (.int .i64 e.ai) := hle 4 _ (by omega) rfl
      have e5 : wr.cell? ⟨gl, k * 12 + 5, none⟩ = some (.int .i64 e.ac) := hle 5 _ (by omega) rfl
      have e6 : wr.cell? ⟨gl, k * 12 + 6, none⟩ = some (.int .i64 e.an) := hle 6 _ (by omega) rfl
      have e7 : wr.cell? ⟨gl, k * 12 + 7, none⟩ = some (.int .i64 e.sd) := hle 7 _ (by omega) rfl
      have e8 : wr.cell? ⟨gl, k * 12 + 8, none⟩ = some (.int .i64 e.ap) := hle 8 _ (by omega) rfl
      have e9 : wr.cell? ⟨gl, k * 12 + 9, none⟩ = some (.int .i64 e.al) := hle 9 _ (by omega) rfl
      have e10 : wr.cell? ⟨gl, k * 12 + 10, none⟩ = some (.int .i64 e.au) := hle 10 _ (by omega) rfl
      have e11 : wr.cell? ⟨gl, k * 12 + 11, none⟩ = some (.int .i64 e.aq) := hle 11 _ (by omega) rfl
      have hdl : l.drop k = e :: l.drop (k + 1) := by
        have h1 := (List.getElem?_eq_some_iff.1 he)
        rw [List.drop_eq_getElem_cons h1.1, h1.2]
      have hbn : Below wr.heap.size wr (wr.alloc (.cells (List.toArray [.int .i64 e.k, .int .i64 e.w, .int .i64 e.n, .int .i64 e.ak, .int .i64 e.ai, .int .i64 e.ac, .int .i64 e.an, .int .i64 e.sd, .int .i64 e.ap, .int .i64 e.al, .int .i64 e.au, .int .i64 e.aq]) 38)) := (Below.refl _ _).alloc (Nat.le_refl _) _
      have hbe := (Bl.new wr (nc e) 38).below (Below.refl _ _)
      have HBN := Lib.hid hbn
      have HBE := Lib.hid hbe
      have HDL := Lib.hid hdl
      clear hrl hvl hgl hle he hdl hbn hbe
      by_cases hiN : i < N
      · have i1 : (i : Int) < (N : Int) := by omega
        obtain ⟨a, ha⟩ : ∃ a, x[i]? = some a := ⟨_, List.getElem?_eq_getElem (by rw [← HN.out]; exact hiN)⟩
        have hrx := rkept (rkept HX.out HS.out.2) HBN.out
        obtain ⟨gx, cpx, hvx, _, _⟩ := World.ownsRow.form hrx (by omega)
        obtain ⟨rfl, rfl⟩ : Ax = some ⟨gx, 0, none⟩ ∧ cpx = cx := by
          injection hvx with h1 h2 h3
          exact ⟨h1, h3.symm⟩
        have hS : (∀ (j : Nat) (u : Value), (nc a)[j]? = some u → (wr.alloc (.cells (List.toArray [.int .i64 e.k, .int .i64 e.w, .int .i64 e.n, .int .i64 e.ak, .int .i64 e.ai, .int .i64 e.ac, .int .i64 e.an, .int .i64 e.sd, .int .i64 e.ap, .int .i64 e.al, .int .i64 e.au, .int .i64 e.aq]) 38)).drew.cell? ⟨gx, i * 12 + j, none⟩ = some u) ∧ (∀ (j : Nat) (u : Value), (nc e)[j]? = some u → (wr.alloc (.cells (List.toArray [.int .i64 e.k, .int .i64 e.w, .int .i64 e.n, .int .i64 e.ak, .int .i64 e.ai, .int .i64 e.ac, .int .i64 e.an, .int .i64 e.sd, .int .i64 e.ap, .int .i64 e.al, .int .i64 e.au, .int .i64 e.aq]) 38)).drew.cell? ⟨wr.heap.size, j, none⟩ = some u) := ⟨fun j u hu => erow_cell hrx ha HN.out (by have := (List.getElem?_eq_some_iff.1 hu).1; rw [nc_len] at this; exact this) hu, fun j u hu => HBE.out.cell j u hu⟩
        have hdx : x.drop i = a :: x.drop (i + 1) := by
          have h1 := (List.getElem?_eq_some_iff.1 ha)
          rw [List.drop_eq_getElem_cons h1.1, h1.2]
        have hsub := HS.out.1
        rw [hdx, HDL.out] at hsub
        have HSE := Lib.hid (sub_eq hsub)
        have HDX := Lib.hid hdx
        obtain ⟨b, hb1, hb2⟩ := eqlEvn a e
        have HBV := Lib.hid hb2
        have HBI := Lib.hid hb1
        have HSS := Lib.hid hS
        clear hrx hvx ha hS hdx hsub hb1 hb2
        go_wp2_with fail
        refine wp_region_held_drew (S := fun w' => (∀ (j : Nat) (u : Value), (nc a)[j]? = some u → w'.cell? ⟨gx, i * 12 + j, none⟩ = some u) ∧ (∀ (j : Nat) (u : Value), (nc e)[j]? = some u → w'.cell? ⟨wr.heap.size, j, none⟩ = some u)) (by kernel_rfl) HSS.out (fun hHeld => ?_)
        refine wpAnyH_take (i := 0) (oi := { dst := some 14, op := Op.move (Operand.tmp 5), type := 3, pos := "law.go:40", after := #[], guard := none }) (v := ?_) rfl (by as_aux_lemma => kernel_rfl) (by as_aux_lemma => kernel_rfl) (by as_aux_lemma => kernel_rfl) (fun _ _ _ h => h) (Or.inl ⟨by rfl, ?_⟩) (by assumption) ?_
        rotate_left
        · intro wq hSw
          go_simp
          try with_reducible rfl
        simp only [Act.put, List.setIfInBounds_toArray, List.set_cons_zero, List.set_cons_succ]
        refine wpAnyH_take (i := 1) (oi := { dst := some 15, op := Op.move (Operand.tmp 0), type := 24, pos := "law.go:40", after := #[], guard := none }) (v := ?_) rfl (by as_aux_lemma => kernel_rfl) (by as_aux_lemma => kernel_rfl) (by as_aux_lemma => kernel_rfl) (fun _ _ _ h => h) (Or.inl ⟨by rfl, ?_⟩) (by assumption) ?_
        rotate_left
        · intro wq hSw
          go_simp
          try with_reducible rfl
        simp only [Act.put, List.setIfInBounds_toArray, List.set_cons_zero, List.set_cons_succ]
        refine wpAnyH_take (i := 2) (oi := { dst := some 16, op := Op.call { callee := Callee.builtin Builtin.len, args := #[Operand.tmp 15], argTypes := #[24] }, type := 3, pos := "law.go:40", after := #[{ on := 1, ground := Ground.data }], guard := none }) (v := ?_) rfl (by as_aux_lemma => kernel_rfl) (by as_aux_lemma => kernel_rfl) (by as_aux_lemma => kernel_rfl) (fun _ _ _ h => h) (Or.inl ⟨by rfl, ?_⟩) (by assumption) ?_
        rotate_left
        · intro wq hSw
          go_simp
          try with_reducible rfl
        simp only [Act.put, List.setIfInBounds_toArray, List.set_cons_zero, List.set_cons_succ]
        refine wpAnyH_take (i := 3) (oi := { dst := some 17, op := Op.binOp BinOp.lss 3 (Operand.tmp 14) (Operand.tmp 16) 3, type := 4, pos := "law.go:40", after := #[{ on := 0, ground := Ground.data }, { on := 2, ground := Ground.data }], guard := none }) (v := .bool true) rfl (by as_aux_lemma => kernel_rfl) (by as_aux_lemma => kernel_rfl) (by as_aux_lemma => kernel_rfl) (fun _ _ _ h => h) (Or.inl ⟨by rfl, ?_⟩) (by assumption) ?_
        · intro wq hSw
          go_simp
          try with_reducible rfl
        simp only [Act.put, List.setIfInBounds_toArray, List.set_cons_zero, List.set_cons_succ]
        refine wpAnyH_take (i := 4) (oi := { dst := some 18, op := Op.move (Operand.tmp 17), type := 4, pos := "law.go:40", after := #[{ on := 3, ground := Ground.data }], guard := none }) (v := ?_) rfl (by as_aux_lemma => kernel_rfl) (by as_aux_lemma => kernel_rfl) (by as_aux_lemma => kernel_rfl) (fun _ _ _ h => h) (Or.inl ⟨by rfl, ?_⟩) (by assumption) ?_
        rotate_left
        · intro wq hSw
          go_simp
          try with_reducible rfl
        simp only [Act.put, List.setIfInBounds_toArray, List.set_cons_zero, List.set_cons_succ]
        refine wpAnyH_take (i := 5) (oi := { dst := some 19, op := Op.move (Operand.tmp 0), type := 24, pos := "law.go:40", after := #[{ on := 4, ground := Ground.guard }], guard := some (4, true) }) (v := ?_) rfl (by as_aux_lemma => kernel_rfl) (by as_aux_lemma => kernel_rfl) (by as_aux_lemma => kernel_rfl) (fun _ _ _ h => h) (Or.inl ⟨by rfl, ?_⟩) (by assumption) ?_
        rotate_left
        · intro wq hSw
          go_simp
          try with_reducible rfl
        simp only [Act.put, List.setIfInBounds_toArray, List.set_cons_zero, List.set_cons_succ]
        refine wpAnyH_take (i := 6) (oi := { dst := some 20, op := Op.move (Operand.tmp 5), type := 3, pos := "law.go:40", after := #[{ on := 4, ground := Ground.guard }], guard := some (4, true) }) (v := ?_) rfl (by as_aux_lemma => kernel_rfl) (by as_aux_lemma => kernel_rfl) (by as_aux_lemma => kernel_rfl) (fun _ _ _ h => h) (Or.inl ⟨by rfl, ?_⟩) (by assumption) ?_
        rotate_left
        · intro wq hSw
          go_simp
          try with_reducible rfl
        simp only [Act.put, List.setIfInBounds_toArray, List.set_cons_zero, List.set_cons_succ]
        refine wpAnyH_take (i := 7) (oi := { dst := some 21, op := Op.indexAddr 24 (Operand.tmp 19) (Operand.tmp 20), type := 0, pos := "law.go:40", after := #[{ on := 5, ground := Ground.data }, { on := 6, ground := Ground.data }, { on := 4, ground := Ground.guard }], guard := some (4, true) }) (v := ?_) rfl (by as_aux_lemma => kernel_rfl) (by as_aux_lemma => kernel_rfl) (by as_aux_lemma => kernel_rfl) (fun _ _ _ h => h) (Or.inl ⟨by rfl, ?_⟩) (by assumption) ?_
        rotate_left
        · intro wq hSw
          go_simp
          try with_reducible rfl
        simp only [Act.put, List.setIfInBounds_toArray, List.set_cons_zero, List.set_cons_succ]
        refine wpAnyH_take (i := 8) (oi := { dst := some 22, op := Op.load 38 (Operand.tmp 21), type := 38, pos := "law.go:40", after := #[{ on := 7, ground := Ground.data }, { on := 4, ground := Ground.guard }], guard := some (4, true) }) (v := ?_) rfl (by as_aux_lemma => kernel_rfl) (by as_aux_lemma => kernel_rfl) (by as_aux_lemma => kernel_rfl) (fun _ _ _ h => h) (Or.inl ⟨by rfl, ?_⟩) (by assumption) ?_
        rotate_left
        · intro wq hSw
          have c0 : wq.cell? ⟨gx, i * 12, none⟩ = some (.int .i64 a.k) := hSw.1 0 _ rfl
          have c1 : wq.cell? ⟨gx, i * 12 + 1, none⟩ = some (.int .i64 a.w) := hSw.1 1 _ rfl
          have c2 : wq.cell? ⟨gx, i * 12 + 2, none⟩ = some (.int .i64 a.n) := hSw.1 2 _ rfl
          have c3 : wq.cell? ⟨gx, i * 12 + 3, none⟩ = some (.int .i64 a.ak) := hSw.1 3 _ rfl
          have c4 : wq.cell? ⟨gx, i * 12 + 4, none⟩ = some (.int .i64 a.ai) := hSw.1 4 _ rfl
          have c5 : wq.cell? ⟨gx, i * 12 + 5, none⟩ = some (.int .i64 a.ac) := hSw.1 5 _ rfl
          have c6 : wq.cell? ⟨gx, i * 12 + 6, none⟩ = some (.int .i64 a.an) := hSw.1 6 _ rfl
          have c7 : wq.cell? ⟨gx, i * 12 + 7, none⟩ = some (.int .i64 a.sd) := hSw.1 7 _ rfl
          have c8 : wq.cell? ⟨gx, i * 12 + 8, none⟩ = some (.int .i64 a.ap) := hSw.1 8 _ rfl
          have c9 : wq.cell? ⟨gx, i * 12 + 9, none⟩ = some (.int .i64 a.al) := hSw.1 9 _ rfl
          have c10 : wq.cell? ⟨gx, i * 12 + 10, none⟩ = some (.int .i64 a.au) := hSw.1 10 _ rfl
          have c11 : wq.cell? ⟨gx, i * 12 + 11, none⟩ = some (.int .i64 a.aq) := hSw.1 11 _ rfl
          go_simp
          try with_reducible rfl
        simp only [Act.put, List.setIfInBounds_toArray, List.set_cons_zero, List.set_cons_succ]
        refine wpAnyH_take (i := 9) (oi := { dst := some 23, op := Op.load 38 (Operand.tmp 7), type := 38, pos := "law.go:40", after := #[{ on := 4, ground := Ground.guard }], guard := some (4, true) }) (v := ?_) rfl (by as_aux_lemma => kernel_rfl) (by as_aux_lemma => kernel_rfl) (by as_aux_lemma => kernel_rfl) (fun _ _ _ h => h) (Or.inl ⟨by rfl, ?_⟩) (by assumption) ?_
        rotate_left
        · intro wq hSw
          have c0 : wq.cell? ⟨wr.heap.size, 0, none⟩ = some (.int .i64 e.k) := hSw.2 0 _ rfl
          have c1 : wq.cell? ⟨wr.heap.size, 1, none⟩ = some (.int .i64 e.w) := hSw.2 1 _ rfl
          have c2 : wq.cell? ⟨wr.heap.size, 2, none⟩ = some (.int .i64 e.n) := hSw.2 2 _ rfl
          have c3 : wq.cell? ⟨wr.heap.size, 3, none⟩ = some (.int .i64 e.ak) := hSw.2 3 _ rfl
          have c4 : wq.cell? ⟨wr.heap.size, 4, none⟩ = some (.int .i64 e.ai) := hSw.2 4 _ rfl
          have c5 : wq.cell? ⟨wr.heap.size, 5, none⟩ = some (.int .i64 e.ac) := hSw.2 5 _ rfl
          have c6 : wq.cell? ⟨wr.heap.size, 6, none⟩ = some (.int .i64 e.an) := hSw.2 6 _ rfl
          have c7 : wq.cell? ⟨wr.heap.size, 7, none⟩ = some (.int .i64 e.sd) := hSw.2 7 _ rfl
          have c8 : wq.cell? ⟨wr.heap.size, 8, none⟩ = some (.int .i64 e.ap) := hSw.2 8 _ rfl
          have c9 : wq.cell? ⟨wr.heap.size, 9, none⟩ = some (.int .i64 e.al) := hSw.2 9 _ rfl
          have c10 : wq.cell? ⟨wr.heap.size, 10, none⟩ = some (.int .i64 e.au) := hSw.2 10 _ rfl
          have c11 : wq.cell? ⟨wr.heap.size, 11, none⟩ = some (.int .i64 e.aq) := hSw.2 11 _ rfl
          go_simp
          try with_reducible rfl
        simp only [Act.put, List.setIfInBounds_toArray, List.set_cons_zero, List.set_cons_succ]
        refine wpAnyH_take (i := 10) (oi := { dst := some 24, op := Op.binOp BinOp.eql 38 (Operand.tmp 22) (Operand.tmp 23) 38, type := 4, pos := "law.go:40", after := #[{ on := 8, ground := Ground.data }, { on := 9, ground := Ground.data }, { on := 4, ground := Ground.guard }], guard := some (4, true) }) (v := .bool b) rfl (by as_aux_lemma => kernel_rfl) (by as_aux_lemma => kernel_rfl) (by as_aux_lemma => kernel_rfl) (fun _ _ _ h => h) (Or.inl ⟨by rfl, ?_⟩) (by assumption) ?_
        · intro wq hSw
          go_simp
          cases b
          · have hne : a ≠ e := fun h => by have := HBI.out.2 h; cases this
            by_cases hk : a.k = e.k
            · rw [if_pos hk]
              by_cases hw : a.w = e.w
              · rw [if_pos hw]
                by_cases hn : a.n = e.n
                · rw [if_pos hn]
                  by_cases hak : a.ak = e.ak
                  · rw [if_pos hak]
                    by_cases hai : a.ai = e.ai
                    · rw [if_pos hai]
                      by_cases hac : a.ac = e.ac
                      · rw [if_pos hac]
                        by_cases han : a.an = e.an
                        · rw [if_pos han]
                          by_cases hsd : a.sd = e.sd
                          · rw [if_pos hsd]
                            by_cases hap : a.ap = e.ap
                            · rw [if_pos hap]
                              by_cases hal : a.al = e.al
                              · rw [if_pos hal]
                                by_cases hau : a.au = e.au
                                · rw [if_pos hau]
                                  by_cases haq : a.aq = e.aq
                                  · rw [if_pos haq]
                                    exact absurd (evn_ext a e hk hw hn hak hai hac han hsd hap hal hau haq) hne
                                  · rw [if_neg haq]
                                · rw [if_neg hau]
                              · rw [if_neg hal]
                            · rw [if_neg hap]
                          · rw [if_neg hsd]
                        · rw [if_neg han]
                      · rw [if_neg hac]
                    · rw [if_neg hai]
                  · rw [if_neg hak]
                · rw [if_neg hn]
              · rw [if_neg hw]
            · rw [if_neg hk]
          · have he : a = e := HBI.out.1 rfl
            subst he
            simp
        simp only [Act.put, List.setIfInBounds_toArray, List.set_cons_zero, List.set_cons_succ]
        refine wpAnyH_take (i := 11) (oi := { dst := some 25, op := Op.pick (Operand.tmp 18) (Operand.tmp 24) (Operand.const (Value.bool false)), type := 4, pos := "law.go:40", after := #[{ on := 4, ground := Ground.data }, { on := 10, ground := Ground.data }], guard := none }) (v := .bool b) rfl (by as_aux_lemma => kernel_rfl) (by as_aux_lemma => kernel_rfl) (by as_aux_lemma => kernel_rfl) (fun _ _ _ h => h) (Or.inl ⟨by rfl, ?_⟩) (by assumption) ?_
        · intro wq hSw
          go_simp
          try with_reducible rfl
        simp only [Act.put, List.setIfInBounds_toArray, List.set_cons_zero, List.set_cons_succ]
        refine wpAnyH_done (by as_aux_lemma => kernel_rfl) ?_ _
        cases b
        · have HQ := Lib.hid (HSE.out.2 (fun h => by have := HBI.out.2 h; cases this))
          clear HBI HBV HSE
          go_wp2_with fail
          go_roundw
          case rel => exact ⟨i, k + 1, hi, by omega, rfl, by go_num, Lib.hid ⟨by rw [HDX.out]; exact HQ.out, Below.drew (Below.step HS.out.2 HBN.out)⟩⟩
          case measure => simp [intOf]; omega
        · have HQ := Lib.hid (HSE.out.1 (HBI.out.1 rfl))
          clear HBI HBV HSE
          go_wp2_with fail
          go_roundw
          case rel => exact ⟨i + 1, k + 1, by omega, by omega, by go_num, by go_num, Lib.hid ⟨HQ.out, Below.drew (Below.step HS.out.2 HBN.out)⟩⟩
          case measure => simp [intOf]; omega
      · have i1 : ¬ ((i : Int) < (N : Int)) := by omega
        go_wp2_with fail
        refine wp_region_held_drew (S := fun w' => True) (by kernel_rfl) trivial (fun hHeld => ?_)
        refine wpAnyH_take (i := 0) (oi := { dst := some 14, op := Op.move (Operand.tmp 5), type := 3, pos := "law.go:40", after := #[], guard := none }) (v := ?_) rfl (by as_aux_lemma => kernel_rfl) (by as_aux_lemma => kernel_rfl) (by as_aux_lemma => kernel_rfl) (fun _ _ _ h => h) (Or.inl ⟨by rfl, ?_⟩) (by assumption) ?_
        rotate_left
        · intro wq hSw
          go_simp
          try with_reducible rfl
        simp only [Act.put, List.setIfInBounds_toArray, List.set_cons_zero, List.set_cons_succ]
        refine wpAnyH_take (i := 1) (oi := { dst := some 15, op := Op.move (Operand.tmp 0), type := 24, pos := "law.go:40", after := #[], guard := none }) (v := ?_) rfl (by as_aux_lemma => kernel_rfl) (by as_aux_lemma => kernel_rfl) (by as_aux_lemma => kernel_rfl) (fun _ _ _ h => h) (Or.inl ⟨by rfl, ?_⟩) (by assumption) ?_
        rotate_left
        · intro wq hSw
          go_simp
          try with_reducible rfl
        simp only [Act.put, List.setIfInBounds_toArray, List.set_cons_zero, List.set_cons_succ]
        refine wpAnyH_take (i := 2) (oi := { dst := some 16, op := Op.call { callee := Callee.builtin Builtin.len, args := #[Operand.tmp 15], argTypes := #[24] }, type := 3, pos := "law.go:40", after := #[{ on := 1, ground := Ground.data }], guard := none }) (v := ?_) rfl (by as_aux_lemma => kernel_rfl) (by as_aux_lemma => kernel_rfl) (by as_aux_lemma => kernel_rfl) (fun _ _ _ h => h) (Or.inl ⟨by rfl, ?_⟩) (by assumption) ?_
        rotate_left
        · intro wq hSw
          go_simp
          try with_reducible rfl
        simp only [Act.put, List.setIfInBounds_toArray, List.set_cons_zero, List.set_cons_succ]
        refine wpAnyH_take (i := 3) (oi := { dst := some 17, op := Op.binOp BinOp.lss 3 (Operand.tmp 14) (Operand.tmp 16) 3, type := 4, pos := "law.go:40", after := #[{ on := 0, ground := Ground.data }, { on := 2, ground := Ground.data }], guard := none }) (v := .bool false) rfl (by as_aux_lemma => kernel_rfl) (by as_aux_lemma => kernel_rfl) (by as_aux_lemma => kernel_rfl) (fun _ _ _ h => h) (Or.inl ⟨by rfl, ?_⟩) (by assumption) ?_
        · intro wq hSw
          go_simp
          try with_reducible rfl
        simp only [Act.put, List.setIfInBounds_toArray, List.set_cons_zero, List.set_cons_succ]
        refine wpAnyH_take (i := 4) (oi := { dst := some 18, op := Op.move (Operand.tmp 17), type := 4, pos := "law.go:40", after := #[{ on := 3, ground := Ground.data }], guard := none }) (v := ?_) rfl (by as_aux_lemma => kernel_rfl) (by as_aux_lemma => kernel_rfl) (by as_aux_lemma => kernel_rfl) (fun _ _ _ h => h) (Or.inl ⟨by rfl, ?_⟩) (by assumption) ?_
        rotate_left
        · intro wq hSw
          go_simp
          try with_reducible rfl
        simp only [Act.put, List.setIfInBounds_toArray, List.set_cons_zero, List.set_cons_succ]
        refine wpAnyH_take (i := 5) (oi := { dst := some 19, op := Op.move (Operand.tmp 0), type := 24, pos := "law.go:40", after := #[{ on := 4, ground := Ground.guard }], guard := some (4, true) }) (v := undef) rfl (by as_aux_lemma => kernel_rfl) (by as_aux_lemma => kernel_rfl) (by as_aux_lemma => kernel_rfl) (fun _ _ _ h => h) (Or.inr ⟨by rfl, rfl⟩) (by assumption) ?_
        simp only [Act.put, List.setIfInBounds_toArray, List.set_cons_zero, List.set_cons_succ]
        refine wpAnyH_take (i := 6) (oi := { dst := some 20, op := Op.move (Operand.tmp 5), type := 3, pos := "law.go:40", after := #[{ on := 4, ground := Ground.guard }], guard := some (4, true) }) (v := undef) rfl (by as_aux_lemma => kernel_rfl) (by as_aux_lemma => kernel_rfl) (by as_aux_lemma => kernel_rfl) (fun _ _ _ h => h) (Or.inr ⟨by rfl, rfl⟩) (by assumption) ?_
        simp only [Act.put, List.setIfInBounds_toArray, List.set_cons_zero, List.set_cons_succ]
        refine wpAnyH_take (i := 7) (oi := { dst := some 21, op := Op.indexAddr 24 (Operand.tmp 19) (Operand.tmp 20), type := 0, pos := "law.go:40", after := #[{ on := 5, ground := Ground.data }, { on := 6, ground := Ground.data }, { on := 4, ground := Ground.guard }], guard := some (4, true) }) (v := undef) rfl (by as_aux_lemma => kernel_rfl) (by as_aux_lemma => kernel_rfl) (by as_aux_lemma => kernel_rfl) (fun _ _ _ h => h) (Or.inr ⟨by rfl, rfl⟩) (by assumption) ?_
        simp only [Act.put, List.setIfInBounds_toArray, List.set_cons_zero, List.set_cons_succ]
        refine wpAnyH_take (i := 8) (oi := { dst := some 22, op := Op.load 38 (Operand.tmp 21), type := 38, pos := "law.go:40", after := #[{ on := 7, ground := Ground.data }, { on := 4, ground := Ground.guard }], guard := some (4, true) }) (v := undef) rfl (by as_aux_lemma => kernel_rfl) (by as_aux_lemma => kernel_rfl) (by as_aux_lemma => kernel_rfl) (fun _ _ _ h => h) (Or.inr ⟨by rfl, rfl⟩) (by assumption) ?_
        simp only [Act.put, List.setIfInBounds_toArray, List.set_cons_zero, List.set_cons_succ]
        refine wpAnyH_take (i := 9) (oi := { dst := some 23, op := Op.load 38 (Operand.tmp 7), type := 38, pos := "law.go:40", after := #[{ on := 4, ground := Ground.guard }], guard := some (4, true) }) (v := undef) rfl (by as_aux_lemma => kernel_rfl) (by as_aux_lemma => kernel_rfl) (by as_aux_lemma => kernel_rfl) (fun _ _ _ h => h) (Or.inr ⟨by rfl, rfl⟩) (by assumption) ?_
        simp only [Act.put, List.setIfInBounds_toArray, List.set_cons_zero, List.set_cons_succ]
        refine wpAnyH_take (i := 10) (oi := { dst := some 24, op := Op.binOp BinOp.eql 38 (Operand.tmp 22) (Operand.tmp 23) 38, type := 4, pos := "law.go:40", after := #[{ on := 8, ground := Ground.data }, { on := 9, ground := Ground.data }, { on := 4, ground := Ground.guard }], guard := some (4, true) }) (v := undef) rfl (by as_aux_lemma => kernel_rfl) (by as_aux_lemma => kernel_rfl) (by as_aux_lemma => kernel_rfl) (fun _ _ _ h => h) (Or.inr ⟨by rfl, rfl⟩) (by assumption) ?_
        simp only [Act.put, List.setIfInBounds_toArray, List.set_cons_zero, List.set_cons_succ]
        refine wpAnyH_take (i := 11) (oi := { dst := some 25, op := Op.pick (Operand.tmp 18) (Operand.tmp 24) (Operand.const (Value.bool false)), type := 4, pos := "law.go:40", after := #[{ on := 4, ground := Ground.data }, { on := 10, ground := Ground.data }], guard := none }) (v := .bool false) rfl (by as_aux_lemma => kernel_rfl) (by as_aux_lemma => kernel_rfl) (by as_aux_lemma => kernel_rfl) (fun _ _ _ h => h) (Or.inl ⟨by rfl, ?_⟩) (by assumption) ?_
        · intro wq hSw
          go_simp
          try with_reducible rfl
        simp only [Act.put, List.setIfInBounds_toArray, List.set_cons_zero, List.set_cons_succ]
        refine wpAnyH_done (by as_aux_lemma => kernel_rfl) ?_ _
        go_wp2_with fail
        go_roundw
        case rel => exact ⟨i, k + 1, hi, by omega, rfl, by go_num, Lib.hid ⟨by rw [List.drop_eq_nil_of_le (by have := HN.out; omega)]; exact List.nil_sublist _, Below.drew (Below.step HS.out.2 HBN.out)⟩⟩
        case measure => simp [intOf]; omega
    · obtain rfl : k = M := by omega
      have hd : l.drop k = [] := List.drop_eq_nil_of_le (by have := HM.out; omega)
      have hsub := HS.out.1
      rw [hd] at hsub
      have hd2 : x.drop i = [] := List.sublist_nil.1 hsub
      have hd3 : N ≤ i := by
        have h1 := congrArg List.length hd2
        rw [List.length_drop, ← HN.out] at h1
        simp at h1
        omega
      obtain rfl : i = N := by omega
      clear hd hsub hd2 hd3
      go_wp2_with fail
      go_ret
      exact ⟨by first | rfl | simp, HS.out.2⟩
end Go.Proofs.Ytfdjbhlpkfbgnaa

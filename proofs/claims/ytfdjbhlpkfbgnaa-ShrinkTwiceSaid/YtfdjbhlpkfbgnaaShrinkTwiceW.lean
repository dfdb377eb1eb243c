/-
  What was shrunk cannot be shrunk any more.
-/
import Derived.Test.YtfdjbhlpkfbgnaaRows
import Derived.Test.YtfdjbhlpkfbgnaaKit
import Derived.Test.YtfdjbhlpkfbgnaaApp
import Derived.Test.YtfdjbhlpkfbgnaaQuiet
import Derived.Test.YtfdjbhlpkfbgnaaShM
import Derived.Test.YtfdjbhlpkfbgnaaShO
import Derived.Test.YtfdjbhlpkfbgnaaShB
import Derived.Test.YtfdjbhlpkfbgnaaShC
import Derived.Test.YtfdjbhlpkfbgnaaShD
import Derived.Test.YtfdjbhlpkfbgnaaShO
import Derived.Test.YtfdjbhlpkfbgnaaShE
import Derived.Test.YtfdjbhlpkfbgnaaShU
import Derived.Test.YtfdjbhlpkfbgnaaShV
import Derived.Test.YtfdjbhlpkfbgnaaShA
import Derived.Test.YtfdjbhlpkfbgnaaShF
import Derived.Test.YtfdjbhlpkfbgnaaShG
import Derived.Test.YtfdjbhlpkfbgnaaShH
import Derived.Test.YtfdjbhlpkfbgnaaShT
import Derived.Test.YtfdjbhlpkfbgnaaShK
import Derived.WalkKit
import Derived.ProofKit
import Derived.OpenShut
import Derived.ShutString
import Derived.Below
import Derived.Outline
import Derived.WalkLawsBesides
import Derived.WalkSpells
import Derived.Handy
import Derived.Deep.QuietTactic
import Derived.BigQuiet
import Derived.RegionTactic
import Derived.ChangeAlike
import Derived.Lib.Hide
import Derived.Laws.Rows
import Derived.Laws.Tables
import Derived.Laws.CopyOwn
import Derived.Laws.MakeOwn
import Derived.Laws.Entries
import Derived.Laws.OwnMore
import Derived.Deep.WholeRow
import Derived.Deep.LoopGhost
import Derived.Deep.AppendLies
import Derived.Deep.Draws
import Derived.Maps.AppendAt
import Derived.OwnWalk
import Derived.Deep.RegionHeld3
import Derived.Deep.Cut
import Derived.Deep.CutRange
import Derived.Deep.DeepCutAuto
import Derived.Deep.CutBlock
import Derived.Lib.SliceRun
import Derived.IntWalk
namespace Go.Proofs.Ytfdjbhlpkfbgnaa.shrinkTwice
open Go.ChangeShapes Go.WideShapes Go.ChangeAt Go.RowKit
theorem eqTerms (a1 a2 a3 a4 a5 : Int) (d : Nat) (w : World) : (Op.equalIn (d + 2) 34 (.agg #[.int .i64 a1, .int .i64 a2, .int .i64 a3, .int .i64 a4, .int .i64 a5]) (.agg #[.int .i64 a1, .int .i64 a2, .int .i64 a3, .int .i64 a4, .int .i64 a5])).run Try.prog w = .ok true w := by
  have u3 := Try.underlying3
  have a3' := Try.isAgg3
  have z3 := Try.sizeOf3
  have hS : Try.prog.underlying 34 = some (.struct (Try.prog.fieldsOf 34)) := by kernel_rfl
  have hp : Try.prog.stoodInHeld 34 = false := by kernel_rfl
  rw [show d + 2 = (d + 1) + 1 from rfl, run_equalIn_agg w (d + 1) 34 _ _ hS hp]
  simp only [Program.fieldsOf, Try.underlying34]
  go_simp
theorem eqAsk (q1 q2 q3 a1 a2 a3 a4 a5 q5 : Int) (d : Nat) (w : World) : (Op.equalIn (d + 3) 36 (.agg #[.int .i64 q1, .int .i64 q2, .int .i64 q3, .int .i64 a1, .int .i64 a2, .int .i64 a3, .int .i64 a4, .int .i64 a5, .int .i64 q5]) (.agg #[.int .i64 q1, .int .i64 q2, .int .i64 q3, .int .i64 a1, .int .i64 a2, .int .i64 a3, .int .i64 a4, .int .i64 a5, .int .i64 q5])).run Try.prog w = .ok true w := by
  have u3 := Try.underlying3
  have a3' := Try.isAgg3
  have z3 := Try.sizeOf3
  have a63 := Try.isAgg34
  have z63 := Try.sizeOf34
  have hS : Try.prog.underlying 36 = some (.struct (Try.prog.fieldsOf 36)) := by kernel_rfl
  have hp : Try.prog.stoodInHeld 36 = false := by kernel_rfl
  have hT := eqTerms a1 a2 a3 a4 a5 d
  rw [show d + 3 = (d + 2) + 1 from rfl, run_equalIn_agg w (d + 2) 36 _ _ hS hp]
  simp only [Program.fieldsOf, Try.underlying36]
  go_simp
  try simp [hT]
theorem eqEvn (x : Evn) (w : World) : (Op.equalIn 10000 38 (.agg (List.toArray [.int .i64 x.k, .int .i64 x.w, .int .i64 x.n, .int .i64 x.ak, .int .i64 x.ai, .int .i64 x.ac, .int .i64 x.an, .int .i64 x.sd, .int .i64 x.ap, .int .i64 x.al, .int .i64 x.au, .int .i64 x.aq])) (.agg (List.toArray [.int .i64 x.k, .int .i64 x.w, .int .i64 x.n, .int .i64 x.ak, .int .i64 x.ai, .int .i64 x.ac, .int .i64 x.an, .int .i64 x.sd, .int .i64 x.ap, .int .i64 x.al, .int .i64 x.au, .int .i64 x.aq]))).run Try.prog w = .ok true w := by
  have u3 := Try.underlying3
  have a3' := Try.isAgg3
  have z3 := Try.sizeOf3
  have a63 := Try.isAgg36
  have z63 := Try.sizeOf36
  have hS : Try.prog.underlying 38 = some (.struct (Try.prog.fieldsOf 38)) := by kernel_rfl
  have hp : Try.prog.stoodInHeld 38 = false := by kernel_rfl
  have hT := eqAsk x.ak x.ai x.ac x.an x.sd x.ap x.al x.au x.aq 9996
  rw [show (10000 : Nat) = 9999 + 1 from rfl, run_equalIn_agg w 9999 38 _ _ hS hp]
  simp only [Program.fieldsOf, Try.underlying38]
  go_simp
  try simp [hT]
theorem neqEvn (x : Evn) (w : World) : (binOp .neq 38 (.agg (List.toArray [.int .i64 x.k, .int .i64 x.w, .int .i64 x.n, .int .i64 x.ak, .int .i64 x.ai, .int .i64 x.ac, .int .i64 x.an, .int .i64 x.sd, .int .i64 x.ap, .int .i64 x.al, .int .i64 x.au, .int .i64 x.aq])) (.agg (List.toArray [.int .i64 x.k, .int .i64 x.w, .int .i64 x.n, .int .i64 x.ak, .int .i64 x.ai, .int .i64 x.ac, .int .i64 x.an, .int .i64 x.sd, .int .i64 x.ap, .int .i64 x.al, .int .i64 x.au, .int .i64 x.aq]))).run Try.prog w = .ok (.bool false) w := by
  simp only [binOp]
  simp [Op.equal, Op.maxDepth, eqEvn x w]
theorem ask_new16 (W : World) (bk bm : Nat) (kind m : Int) (hk : W.cell? ⟨bk, 0, none⟩ = some (.int .i64 kind)) (hm : W.cell? ⟨bm, 0, none⟩ = some (.int .i64 m)) (hbk : bk < W.heap.size) (hbm : bm < W.heap.size) : AskOk (W.alloc (.cells #[.func (.func 16) #[] #[.pointer (some ⟨bk, 0, none⟩), .pointer (some ⟨bm, 0, none⟩)]] 44)) W.heap.size (holdsE kind m) :=
  ask16 _ W.heap.size bk bm kind m ((Bl.new W [.func (.func 16) #[] #[.pointer (some ⟨bk, 0, none⟩), .pointer (some ⟨bm, 0, none⟩)]] 44).cell 0 _ rfl) (by rw [World.size_alloc]; omega) ((World.cell?_alloc_lt W _ ⟨bk, 0, none⟩ hbk).trans hk) ((World.cell?_alloc_lt W _ ⟨bm, 0, none⟩ hbm).trans hm) (by rw [World.size_alloc]; omega) (by rw [World.size_alloc]; omega)
set_option maxRecDepth 100000 in
set_option maxHeartbeats 2000000 in
theorem walk (A : Option Addr) (n cp : Nat) (g : Nat → Evn) (kind m : Int) (w : World) (h : EvnAt A n g w) (_ : (Lit.int .i64 kind).wf = true) (_ : (Lit.int .i64 m).wf = true) : Calls Try.prog 5 #[.slice A n cp, .int .i64 kind, .int .i64 m] w fun e w' => e = .returned (.bool true) ∧ Below w.heap.size w w' := by
  have HAW := Lib.hid awake_is
  have hmf : ∀ (fn : Fn) (first cap : Array Value) (w : World), (Instr.makeFunc fn first cap).run Try.prog w = .ok (.func fn first cap) w := fun _ _ _ _ => rfl
  obtain ⟨W2, hW2⟩ : ∃ W2, W2 = (w.alloc (.cells #[.int .i64 kind] 3)).alloc (.cells #[.int .i64 m] 3) := ⟨_, rfl⟩
  have hb2 : Below w.heap.size w W2 := by rw [hW2]; go_grown
  have hk2 : W2.cell? ⟨w.heap.size, 0, none⟩ = some (.int .i64 kind) := by rw [hW2]; simp [go_sem]
  have hm2 : W2.cell? ⟨w.heap.size + 1, 0, none⟩ = some (.int .i64 m) := by rw [hW2]; simp [go_sem]
  have hs2 : W2.heap.size = w.heap.size + 1 + 1 := by rw [hW2]; simp only [World.size_alloc]
  have HB2 := Lib.hid hb2
  have HW2 := Lib.hid hW2
  by_cases hn : n ≤ 60
  · have n0 : ¬ ((60 : Int) < (n : Int)) := by omega
    have HALL := Lib.hid (all_is A n cp g (by omega) W2 (h.below hb2))
    have HN := Lib.hid hn
    have HK := Lib.hid (And.intro hk2 (And.intro hm2 hs2))
    have HE := Lib.hid (evs_len g n)
    rw [hW2] at HALL
    clear h hb2 hk2 hm2 hs2 hW2 hn
    generalize evs g n = L at *
    go_enter Try.func5, Try.ntmps5
    go_wp2_with fail
    refine HALL.out.mono ?_
    rintro e3 w3 ⟨A3, c3, rfl, ho3, hb3⟩
    rw [← HW2.out] at ho3 hb3
    have bk3 : w3.cell? ⟨w.heap.size, 0, none⟩ = some (.int .i64 kind) := (hb3.cell (p := ⟨w.heap.size, 0, none⟩) (show w.heap.size < _ from by have := HK.out.2.2; omega)).trans HK.out.1
    have bm3 : w3.cell? ⟨w.heap.size + 1, 0, none⟩ = some (.int .i64 m) := (hb3.cell (p := ⟨w.heap.size + 1, 0, none⟩) (show w.heap.size + 1 < _ from by have := HK.out.2.2; omega)).trans HK.out.2.1
    have hs3 : w.heap.size + 1 < w3.heap.size := by have := HK.out.2.2; have := hb3.size; omega
    have HB3 := Lib.hid (Below.step HB2.out hb3)
    have HS1 := Lib.hid (script_is (.func 16) #[.pointer (some ⟨w.heap.size, 0, none⟩), .pointer (some ⟨w.heap.size + 1, 0, none⟩)] (holdsE kind m) W2.heap.size n c3 A3 L w3 ho3 HE.out.symm HN.out (ask_new16 w3 _ _ kind m bk3 bm3 (by omega) hs3))
    have HK3 := Lib.hid (And.intro bk3 (And.intro bm3 hs3))
    clear ho3 hb3 bk3 bm3 hs3 HALL
    cases hp : holdsE kind m L
    · rw [hp] at HS1
      clear hp
      go_wp2_with fail
      refine HS1.out.mono ?_
      rintro e4 w4 ⟨v, rfl, hb4, _⟩
      have HB4 := Lib.hid (Below.step HB3.out hb4)
      clear hb4
      go_wp2_with fail
      refine (HAW.out _).mono ?_
      rintro e5 w5 ⟨rfl, hb5⟩
      have HB5 := Lib.hid (Below.step HB4.out hb5)
      clear hb5
      go_wp2_with fail
      go_ret
      exact ⟨rfl, HB5.out⟩
    · rw [hp] at HS1
      clear hp
      go_wp2_with fail
      refine HS1.out.mono ?_
      rintro e4 w4 ⟨v, rfl, hb4, hx⟩
      obtain ⟨x0, ⟨b, A4, c4, rfl, ho4⟩, hsub, hpx, hlx⟩ := hx (by trivial)
      have hle : x0.length ≤ 60 := by
        have h1 := hsub.length_le
        have h2 := HE.out
        have h3 := HN.out
        omega
      have HS2 := Lib.hid (script_is (.func 16) #[.pointer (some ⟨w.heap.size, 0, none⟩), .pointer (some ⟨w.heap.size + 1, 0, none⟩)] (holdsE kind m) b x0.length c4 A4 x0 w4 ho4 rfl hle (ask_new16 w4 _ _ kind m ((hb4.cell (p := ⟨w.heap.size, 0, none⟩) (show w.heap.size < _ from by have := HK3.out.2.2; omega)).trans HK3.out.1) ((hb4.cell (p := ⟨w.heap.size + 1, 0, none⟩) HK3.out.2.2).trans HK3.out.2.1) (by have := HK3.out.2.2; have := hb4.size; omega) (by have := HK3.out.2.2; have := hb4.size; omega)))
      rw [hpx] at HS2
      have HB4 := Lib.hid (Below.step HB3.out hb4)
      have HO4 := Lib.hid ho4
      have HL4 := Lib.hid hlx
      generalize hN : x0.length = N at *
      have HNN := Lib.hid hN
      clear hb4 ho4 hx hsub hpx hlx hN HS1 HK3
      go_wp2_with fail
      refine HS2.out.mono ?_
      rintro e5 w5 ⟨v5, rfl, hb5, hy⟩
      obtain ⟨y, ⟨b5, A5, c5, rfl, ho5⟩, hsub5, hpy, hly⟩ := hy (by trivial)
      obtain rfl := least_once HL4.out hsub5 hpy
      rw [HNN.out] at ho5 ⊢
      have HO5 := Lib.hid ho5
      have HR4 := Lib.hid (rkept HO4.out hb5)
      have HB5 := Lib.hid (Below.step HB4.out hb5)
      clear hb5 hy ho5 hsub5 hpy hly HS2 HO4
      have N0 : (N : Int) ≤ 60 := by omega
      go_wp2_with fail
      go_loopw [12, 45] (fun _ i wr => ∃ k : Nat, k ≤ N ∧ i = .int .i64 (k : Int) ∧ Hid (Below w5.heap.size w5 wr)) (fun _ i _ => N + 1 - (intOf i).toNat)
      case atStart => exact ⟨0, Nat.zero_le _, rfl, Lib.hid (Below.refl _ _)⟩
      case round =>
        obtain ⟨k, hk, rfl, HBR⟩ := hrel
        have k0 : (0 : Int) ≤ (k : Int) := by omega
        by_cases hkn : k < N
        · have k1 : (k : Int) < (N : Int) := by omega
          have hr4 := rkept HR4.out HBR.out
          have hr5 := rkept HO5.out HBR.out
          obtain ⟨g4, cp4, hv4, _, _⟩ := World.ownsRow.form hr4 (by omega)
          obtain ⟨rfl, rfl⟩ : A4 = some ⟨g4, 0, none⟩ ∧ cp4 = c4 := by
            injection hv4 with h1 h2 h3
            exact ⟨h1, h3.symm⟩
          obtain ⟨g5, cp5, hv5, _, _⟩ := World.ownsRow.form hr5 (by omega)
          obtain ⟨rfl, rfl⟩ : A5 = some ⟨g5, 0, none⟩ ∧ cp5 = c5 := by
            injection hv5 with h1 h2 h3
            exact ⟨h1, h3.symm⟩
          obtain ⟨x, hx⟩ : ∃ x, y[k]? = some x := ⟨_, List.getElem?_eq_getElem (by rw [HNN.out]; exact hkn)⟩
          have hCC : (∀ (j : Nat) (u : Value), (nc x)[j]? = some u → wr.drew.cell? ⟨g4, k * 12 + j, none⟩ = some u) ∧ (∀ (j : Nat) (u : Value), (nc x)[j]? = some u → wr.drew.cell? ⟨g5, k * 12 + j, none⟩ = some u) := ⟨fun j u hu => erow_cell hr4 hx HNN.out.symm (by have := (List.getElem?_eq_some_iff.1 hu).1; rw [nc_len] at this; exact this) hu, fun j u hu => erow_cell hr5 hx HNN.out.symm (by have := (List.getElem?_eq_some_iff.1 hu).1; rw [nc_len] at this; exact this) hu⟩
          clear hr4 hr5 hv4 hv5 hx
          have HCC := Lib.hid hCC
          clear hCC
          go_wp2_with fail
          · refine wp_region_held_drew (S := fun w' => (∀ (j : Nat) (u : Value), (nc x)[j]? = some u → w'.cell? ⟨g4, k * 12 + j, none⟩ = some u) ∧ (∀ (j : Nat) (u : Value), (nc x)[j]? = some u → w'.cell? ⟨g5, k * 12 + j, none⟩ = some u)) (by kernel_rfl) HCC.out (fun hHeld => ?_)
            refine wpAnyH_take (i := 0) (oi := { dst := some 48, op := Op.move (Operand.tmp 8), type := 24, pos := "law.go:161", after := #[], guard := none }) (v := ?_) rfl (by as_aux_lemma => kernel_rfl) (by as_aux_lemma => kernel_rfl) (by as_aux_lemma => kernel_rfl) (fun _ _ _ h => h) (Or.inl ⟨by rfl, ?_⟩) (by assumption) ?_
            rotate_left
            · intro wq hSw
              go_simp
              try with_reducible rfl
            simp only [Act.put, List.setIfInBounds_toArray, List.set_cons_zero, List.set_cons_succ]
            refine wpAnyH_take (i := 1) (oi := { dst := some 49, op := Op.move (Operand.tmp 12), type := 3, pos := "law.go:161", after := #[], guard := none }) (v := ?_) rfl (by as_aux_lemma => kernel_rfl) (by as_aux_lemma => kernel_rfl) (by as_aux_lemma => kernel_rfl) (fun _ _ _ h => h) (Or.inl ⟨by rfl, ?_⟩) (by assumption) ?_
            rotate_left
            · intro wq hSw
              go_simp
              try with_reducible rfl
            simp only [Act.put, List.setIfInBounds_toArray, List.set_cons_zero, List.set_cons_succ]
            refine wpAnyH_take (i := 2) (oi := { dst := some 50, op := Op.indexAddr 24 (Operand.tmp 48) (Operand.tmp 49), type := 0, pos := "law.go:161", after := #[{ on := 0, ground := Ground.data }, { on := 1, ground := Ground.data }], guard := none }) (v := ?_) rfl (by as_aux_lemma => kernel_rfl) (by as_aux_lemma => kernel_rfl) (by as_aux_lemma => kernel_rfl) (fun _ _ _ h => h) (Or.inl ⟨by rfl, ?_⟩) (by assumption) ?_
            rotate_left
            · intro wq hSw
              go_simp
              try with_reducible rfl
            simp only [Act.put, List.setIfInBounds_toArray, List.set_cons_zero, List.set_cons_succ]
            refine wpAnyH_take (i := 3) (oi := { dst := some 51, op := Op.load 38 (Operand.tmp 50), type := 38, pos := "law.go:161", after := #[{ on := 2, ground := Ground.data }], guard := none }) (v := ?_) rfl (by as_aux_lemma => kernel_rfl) (by as_aux_lemma => kernel_rfl) (by as_aux_lemma => kernel_rfl) (fun _ _ _ h => h) (Or.inl ⟨by rfl, ?_⟩) (by assumption) ?_
            rotate_left
            · intro wq hSw
              have c0 : wq.cell? ⟨g4, k * 12, none⟩ = some (.int .i64 x.k) := hSw.1 0 _ rfl
              have c1 : wq.cell? ⟨g4, k * 12 + 1, none⟩ = some (.int .i64 x.w) := hSw.1 1 _ rfl
              have c2 : wq.cell? ⟨g4, k * 12 + 2, none⟩ = some (.int .i64 x.n) := hSw.1 2 _ rfl
              have c3 : wq.cell? ⟨g4, k * 12 + 3, none⟩ = some (.int .i64 x.ak) := hSw.1 3 _ rfl
              have c4 : wq.cell? ⟨g4, k * 12 + 4, none⟩ = some (.int .i64 x.ai) := hSw.1 4 _ rfl
              have c5 : wq.cell? ⟨g4, k * 12 + 5, none⟩ = some (.int .i64 x.ac) := hSw.1 5 _ rfl
              have c6 : wq.cell? ⟨g4, k * 12 + 6, none⟩ = some (.int .i64 x.an) := hSw.1 6 _ rfl
              have c7 : wq.cell? ⟨g4, k * 12 + 7, none⟩ = some (.int .i64 x.sd) := hSw.1 7 _ rfl
              have c8 : wq.cell? ⟨g4, k * 12 + 8, none⟩ = some (.int .i64 x.ap) := hSw.1 8 _ rfl
              have c9 : wq.cell? ⟨g4, k * 12 + 9, none⟩ = some (.int .i64 x.al) := hSw.1 9 _ rfl
              have c10 : wq.cell? ⟨g4, k * 12 + 10, none⟩ = some (.int .i64 x.au) := hSw.1 10 _ rfl
              have c11 : wq.cell? ⟨g4, k * 12 + 11, none⟩ = some (.int .i64 x.aq) := hSw.1 11 _ rfl
              go_simp
              try with_reducible rfl
            simp only [Act.put, List.setIfInBounds_toArray, List.set_cons_zero, List.set_cons_succ]
            refine wpAnyH_take (i := 4) (oi := { dst := some 52, op := Op.move (Operand.tmp 10), type := 24, pos := "law.go:161", after := #[], guard := none }) (v := ?_) rfl (by as_aux_lemma => kernel_rfl) (by as_aux_lemma => kernel_rfl) (by as_aux_lemma => kernel_rfl) (fun _ _ _ h => h) (Or.inl ⟨by rfl, ?_⟩) (by assumption) ?_
            rotate_left
            · intro wq hSw
              go_simp
              try with_reducible rfl
            simp only [Act.put, List.setIfInBounds_toArray, List.set_cons_zero, List.set_cons_succ]
            refine wpAnyH_take (i := 5) (oi := { dst := some 53, op := Op.move (Operand.tmp 12), type := 3, pos := "law.go:161", after := #[], guard := none }) (v := ?_) rfl (by as_aux_lemma => kernel_rfl) (by as_aux_lemma => kernel_rfl) (by as_aux_lemma => kernel_rfl) (fun _ _ _ h => h) (Or.inl ⟨by rfl, ?_⟩) (by assumption) ?_
            rotate_left
            · intro wq hSw
              go_simp
              try with_reducible rfl
            simp only [Act.put, List.setIfInBounds_toArray, List.set_cons_zero, List.set_cons_succ]
            refine wpAnyH_take (i := 6) (oi := { dst := some 54, op := Op.indexAddr 24 (Operand.tmp 52) (Operand.tmp 53), type := 0, pos := "law.go:161", after := #[{ on := 4, ground := Ground.data }, { on := 5, ground := Ground.data }], guard := none }) (v := ?_) rfl (by as_aux_lemma => kernel_rfl) (by as_aux_lemma => kernel_rfl) (by as_aux_lemma => kernel_rfl) (fun _ _ _ h => h) (Or.inl ⟨by rfl, ?_⟩) (by assumption) ?_
            rotate_left
            · intro wq hSw
              go_simp
              try with_reducible rfl
            simp only [Act.put, List.setIfInBounds_toArray, List.set_cons_zero, List.set_cons_succ]
            refine wpAnyH_take (i := 7) (oi := { dst := some 55, op := Op.load 38 (Operand.tmp 54), type := 38, pos := "law.go:161", after := #[{ on := 6, ground := Ground.data }], guard := none }) (v := ?_) rfl (by as_aux_lemma => kernel_rfl) (by as_aux_lemma => kernel_rfl) (by as_aux_lemma => kernel_rfl) (fun _ _ _ h => h) (Or.inl ⟨by rfl, ?_⟩) (by assumption) ?_
            rotate_left
            · intro wq hSw
              have c0 : wq.cell? ⟨g5, k * 12, none⟩ = some (.int .i64 x.k) := hSw.2 0 _ rfl
              have c1 : wq.cell? ⟨g5, k * 12 + 1, none⟩ = some (.int .i64 x.w) := hSw.2 1 _ rfl
              have c2 : wq.cell? ⟨g5, k * 12 + 2, none⟩ = some (.int .i64 x.n) := hSw.2 2 _ rfl
              have c3 : wq.cell? ⟨g5, k * 12 + 3, none⟩ = some (.int .i64 x.ak) := hSw.2 3 _ rfl
              have c4 : wq.cell? ⟨g5, k * 12 + 4, none⟩ = some (.int .i64 x.ai) := hSw.2 4 _ rfl
              have c5 : wq.cell? ⟨g5, k * 12 + 5, none⟩ = some (.int .i64 x.ac) := hSw.2 5 _ rfl
              have c6 : wq.cell? ⟨g5, k * 12 + 6, none⟩ = some (.int .i64 x.an) := hSw.2 6 _ rfl
              have c7 : wq.cell? ⟨g5, k * 12 + 7, none⟩ = some (.int .i64 x.sd) := hSw.2 7 _ rfl
              have c8 : wq.cell? ⟨g5, k * 12 + 8, none⟩ = some (.int .i64 x.ap) := hSw.2 8 _ rfl
              have c9 : wq.cell? ⟨g5, k * 12 + 9, none⟩ = some (.int .i64 x.al) := hSw.2 9 _ rfl
              have c10 : wq.cell? ⟨g5, k * 12 + 10, none⟩ = some (.int .i64 x.au) := hSw.2 10 _ rfl
              have c11 : wq.cell? ⟨g5, k * 12 + 11, none⟩ = some (.int .i64 x.aq) := hSw.2 11 _ rfl
              go_simp
              try with_reducible rfl
            simp only [Act.put, List.setIfInBounds_toArray, List.set_cons_zero, List.set_cons_succ]
            refine wpAnyH_take (i := 8) (oi := { dst := some 56, op := Op.binOp BinOp.neq 38 (Operand.tmp 51) (Operand.tmp 55) 38, type := 4, pos := "law.go:161", after := #[{ on := 3, ground := Ground.data }, { on := 7, ground := Ground.data }], guard := none }) (v := .bool false) rfl (by as_aux_lemma => kernel_rfl) (by as_aux_lemma => kernel_rfl) (by as_aux_lemma => kernel_rfl) (fun _ _ _ h => h) (Or.inl ⟨by rfl, ?_⟩) (by assumption) ?_
            · intro wq hSw
              have hne := neqEvn x wq
              go_simp
              try with_reducible rfl
            simp only [Act.put, List.setIfInBounds_toArray, List.set_cons_zero, List.set_cons_succ]
            refine wpAnyH_done (by as_aux_lemma => kernel_rfl) ?_ _
            go_wp2_with fail
            go_roundw
            case rel => exact ⟨k + 1, by omega, by go_num, Lib.hid (Below.drew HBR.out)⟩
            case measure => simp [intOf]; omega
        · obtain rfl : k = N := by omega
          go_wp2_with fail
          refine (HAW.out _).mono ?_
          rintro e6 w6 ⟨rfl, hb6⟩
          have HB6 := Lib.hid (Below.step (Below.step HB5.out HBR.out) hb6)
          clear hb6
          go_wp2_with fail
          go_ret
          exact ⟨rfl, HB6.out⟩
  · have n0 : (60 : Int) < (n : Int) := by omega
    clear h hb2 hk2 hm2 hs2 hn
    go_enter Try.func5, Try.ntmps5
    go_wp2_with fail
    refine (HAW.out _).mono ?_
    rintro e6 w6 ⟨rfl, hb6⟩
    rw [← HW2.out] at hb6
    have HB6 := Lib.hid (Below.step HB2.out hb6)
    clear hb6
    go_wp2_with fail
    go_ret
    exact ⟨rfl, HB6.out⟩
end Go.Proofs.Ytfdjbhlpkfbgnaa.shrinkTwice

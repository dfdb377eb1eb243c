/-
  Print of a right reply.
-/
import Derived.Test.YtinciphhoieonaaGreatDoorRows
import Derived.Test.YtinciphhoieonaaGreatDoorKit
import Derived.Test.YtinciphhoieonaaGreatDoorApp
import Derived.Test.YtinciphhoieonaaGreatDoorQuiet
import Derived.WalkKit
import Derived.ProofKit
import Derived.OpenShut
import Derived.ShutString
import Derived.Below
import Derived.Outline
import Derived.WalkLawsBesides
import Derived.WalkSpells
import Derived.Handy
import Derived.Deep.QuietTactic
import Derived.BigQuiet
import Derived.RegionTactic
import Derived.ChangeAlike
import Derived.Lib.Hide
import Derived.Laws.Rows
import Derived.Laws.Tables
import Derived.Laws.CopyOwn
import Derived.Laws.MakeOwn
import Derived.Laws.Entries
import Derived.Laws.OwnMore
import Derived.Deep.WholeRow
import Derived.Deep.LoopGhost
import Derived.Deep.AppendLies
import Derived.Deep.Draws
import Derived.Maps.AppendAt
import Derived.OwnWalk
import Derived.Deep.RegionHeld3
import Derived.Deep.Cut
import Derived.Deep.CutRange
import Derived.Deep.DeepCutAuto
import Derived.Deep.CutBlock
import Derived.Lib.SliceRun
import Derived.IntWalk
import Derived.Laws.Strings
import Derived.Lib.Bytealg
import Derived.Lib.Strings
import Derived.Laws.Externs
import Derived.Test.YtinciphhoieonaaGreatDoorAnR
import Derived.Test.YtinciphhoieonaaGreatDoorAnTa
namespace Go.Proofs.YtinciphhoieonaaGreatDoor
open Go.ChangeShapes Go.WideShapes Go.ChangeAt Go.RowKit
theorem lws_len : ∀ L : List Lk, (L.flatMap lw).length = 3 * L.length
  | [] => rfl
  | x :: L => by
    rw [List.flatMap_cons, List.length_append, lws_len L, List.length_cons]
    show 3 + 3 * L.length = _
    omega
theorem dcl_int_len {x : Int} (h : x ≤ 9223372036854775807) : (dcl x.toNat).length ≤ 19 := dcl_len 18 _ (by show x.toNat < 10000000000000000000; omega)
theorem join_le (M : Nat) : ∀ (L : List (List UInt8)) (x : List UInt8), (∀ y ∈ x :: L, y.length ≤ M) → (Lib.join (x :: L) [32]).length ≤ (L.length + 1) * (M + 1)
  | L, x, h => by
    rw [Lib.join_length]
    have hs : ∀ K : List (List UInt8), (∀ y ∈ K, y.length ≤ M) → Lib.lens K ≤ K.length * M := by
      intro K hK
      induction K with
      | nil => exact Nat.zero_le _
      | cons y K ih =>
        have h1 := hK y (List.mem_cons_self ..)
        have h2 := ih (fun z hz => hK z (List.mem_cons_of_mem _ hz))
        show y.length + Lib.lens K ≤ _
        rw [List.length_cons, Nat.succ_mul]
        omega
    have h3 := hs (x :: L) h
    rw [List.length_cons] at h3
    rw [Nat.mul_add, Nat.mul_one]
    show 1 * L.length + _ ≤ _
    omega
theorem lw_small (x : Lk) (h : lkR x = true) : ∀ y ∈ lw x, y.length ≤ 19 := by
  obtain ⟨h0, h1, h2⟩ := lkR_out h
  intro y hy
  unfold lw at hy
  simp only [List.mem_cons, List.not_mem_nil, or_false] at hy
  rcases hy with rfl | rfl | rfl
  · rcases h0 with h | h | h | h | h | h <;> rw [h] <;> decide
  · exact dcl_int_len (by omega)
  · exact dcl_int_len (by omega)
theorem tl_small (r : Rp) (h : Rt r) (hcd : r.cd ≤ 9223372036854775807) : ∀ y ∈ tl_ r, y.length ≤ 19 := by
  have hrec := h.recs
  have hlook := h.look
  intro y hy
  unfold tl_ at hy
  split at hy
  · simp only [List.mem_cons, List.not_mem_nil, or_false] at hy
    rcases hy with rfl | rfl
    · decide
    · exact dcl_int_len hcd
  split at hy
  · simp only [List.mem_cons, List.not_mem_nil, or_false] at hy
    subst hy; decide
  split at hy
  · have hn : (rn r.r0).length ≤ 19 := by
      rcases (show r.r0 = 0 ∨ r.r0 = 1 ∨ r.r0 = 2 ∨ r.r0 = 3 ∨ r.r0 = 4 ∨ r.r0 = 5 by omega) with h | h | h | h | h | h <;> rw [h] <;> decide
    split at hy
    · simp only [List.mem_cons, List.not_mem_nil, or_false] at hy
      rcases hy with rfl | rfl | rfl | rfl
      · exact hn
      · exact dcl_int_len (by omega)
      · exact dcl_int_len (by omega)
      · exact dcl_int_len (by omega)
    · simp only [List.mem_cons, List.not_mem_nil, or_false] at hy
      subst hy; exact hn
  split at hy
  · rcases List.mem_flatMap.1 hy with ⟨x, hx, hxy⟩
    rcases hlook with h0 | ⟨_, _, h0⟩
    · rw [h0] at hx; cases hx
    · exact lw_small x (h0 x hx) y hxy
  · simp only [List.mem_cons, List.not_mem_nil, or_false] at hy
    subst hy; decide
theorem tl_len (r : Rp) : (tl_ r).length ≤ 3 * r.L.length + 4 := by
  unfold tl_
  split
  · simp
  split
  · simp
  split
  · split <;> simp
  split
  · rw [lws_len]; omega
  · simp
theorem aw_len (r : Rp) (h : Rt r) (hl : r.L.length ≤ 1000) (hcd : r.cd ≤ 9223372036854775807) : 0 < (aw r).length ∧ (aw r).length ≤ 3010 ∧ (Lib.join (aw r) [32]).length ≤ 140737488355328 := by
  have h1 := tl_len r
  have h2 : (aw r).length ≤ 3010 := by
    unfold aw
    by_cases a : r.k ≤ 2 <;> by_cases b : r.k ≤ 3 <;> simp [a, b] <;> omega
  have h3 : ∀ y ∈ aw r, y.length ≤ 19 := by
    have ht := h.t
    have hi := h.i
    have hc := h.c
    have hk := h.k
    intro y hy
    unfold aw at hy
    rw [List.mem_cons, List.mem_cons, List.mem_append, List.mem_append] at hy
    rcases hy with rfl | rfl | hy | hy | hy
    · exact dcl_int_len (by omega)
    · rcases (show r.k = 1 ∨ r.k = 2 ∨ r.k = 3 ∨ r.k = 4 by omega) with h | h | h | h <;> rw [h] <;> decide
    · split at hy
      · simp only [List.mem_cons, List.not_mem_nil, or_false] at hy
        subst hy; exact dcl_int_len (by omega)
      · cases hy
    · split at hy
      · simp only [List.mem_cons, List.not_mem_nil, or_false] at hy
        subst hy; exact dcl_int_len (by omega)
      · cases hy
    · exact tl_small r h hcd y hy
  refine ⟨by unfold aw; simp, h2, ?_⟩
  have h4 : ∃ x K, aw r = x :: K := ⟨_, _, rfl⟩
  obtain ⟨x, K, e⟩ := h4
  rw [e] at h2 h3 ⊢
  have := join_le 19 K x h3
  rw [List.length_cons] at h2
  omega
set_option maxRecDepth 100000 in
set_option maxHeartbeats 8000000 in
theorem print_is (k cd t i c : Int) (ask : Bool) (r0 r1 r2 r3 r4 r5 : Int) (L : List Lk) (A : Option Addr) (cap : Nat) (h : Rt ⟨k, cd, t, i, c, ask, r0, r1, r2, r3, r4, r5, L⟩) (hcd : cd ≤ 9223372036854775807) (w : World) (hL : LkAt A L w) (hl : L.length ≤ 1000) (hv : Vb w) (ht : Tb w) : Calls Tryz.prog 8 #[.agg (List.toArray [.int .i64 k, .int .i64 cd, .int .i64 t, .int .i64 i, .int .i64 c, .bool ask, .int .i64 r0, .int .i64 r1, .int .i64 r2, .int .i64 r3, .int .i64 r4, .int .i64 r5, .slice A L.length cap])] w fun e w' => e = .returned (.tuple #[.string (Bs (jl (aw ⟨k, cd, t, i, c, ask, r0, r1, r2, r3, r4, r5, L⟩))), .nilIface]) ∧ Below w.heap.size w w' := by
  have gB : Below w.heap.size w (w.alloc (.cells (List.toArray [.int .i64 k, .int .i64 cd, .int .i64 t, .int .i64 i, .int .i64 c, .bool ask, .int .i64 r0, .int .i64 r1, .int .i64 r2, .int .i64 r3, .int .i64 r4, .int .i64 r5, .slice A L.length cap]) 27)) := by go_grown
  have bR := Bl.new w [.int .i64 k, .int .i64 cd, .int .i64 t, .int .i64 i, .int .i64 c, .bool ask, .int .i64 r0, .int .i64 r1, .int .i64 r2, .int .i64 r3, .int .i64 r4, .int .i64 r5, .slice A L.length cap] 27
  have HRI := Lib.hid (show Calls Tryz.prog 9 #[.agg (List.toArray [.int .i64 k, .int .i64 cd, .int .i64 t, .int .i64 i, .int .i64 c, .bool ask, .int .i64 r0, .int .i64 r1, .int .i64 r2, .int .i64 r3, .int .i64 r4, .int .i64 r5, .slice A L.length cap])] (w.alloc (.cells (List.toArray [.int .i64 k, .int .i64 cd, .int .i64 t, .int .i64 i, .int .i64 c, .bool ask, .int .i64 r0, .int .i64 r1, .int .i64 r2, .int .i64 r3, .int .i64 r4, .int .i64 r5, .slice A L.length cap]) 27)) (fun e w' => e = .returned (.bool true) ∧ Below (w.alloc (.cells (List.toArray [.int .i64 k, .int .i64 cd, .int .i64 t, .int .i64 i, .int .i64 c, .bool ask, .int .i64 r0, .int .i64 r1, .int .i64 r2, .int .i64 r3, .int .i64 r4, .int .i64 r5, .slice A L.length cap]) 27)).heap.size (w.alloc (.cells (List.toArray [.int .i64 k, .int .i64 cd, .int .i64 t, .int .i64 i, .int .i64 c, .bool ask, .int .i64 r0, .int .i64 r1, .int .i64 r2, .int .i64 r3, .int .i64 r4, .int .i64 r5, .slice A L.length cap]) 27)) w') from right_is ⟨k, cd, t, i, c, ask, r0, r1, r2, r3, r4, r5, L⟩ h A cap _ (hL.below gB) hl)
  have HB := Lib.hid (And.intro gB bR)
  have HRT := Lib.hid h
  have HCD := Lib.hid hcd
  have HLK := Lib.hid hL
  have HLL := Lib.hid hl
  have HV := Lib.hid hv
  have HT := Lib.hid ht
  obtain ⟨i0s, hii, hiz⟩ := Option.map_eq_some_iff.1 infoS'
  obtain ⟨hz0, hz1, hz2⟩ : i0s.zero = some (.string ⟨#[]⟩) ∧ i0s.size = 1 ∧ i0s.bytes = 16 := by simpa using hiz
  have HII := Lib.hid hii
  have HZ0 := Lib.hid hz0
  have HZ1 := Lib.hid hz1
  have HZ2 := Lib.hid hz2
  clear hii hiz hz0 hz1 hz2 gB bR h hcd hL hl hv ht
  go_enter Tryz.func8, Tryz.ntmps8
  go_wp2_with fail
  refine HRI.out.mono ?_
  rintro e1 w1 ⟨rfl, hb1⟩
  have HB1 := Lib.hid (And.intro (HB.out.2.below hb1) (Below.step HB.out.1 hb1))
  clear hb1
  go_upto_region 4 with fail
  obtain ⟨RB, hRB⟩ : ∃ RB, RB = w.heap.size := ⟨_, rfl⟩
  obtain ⟨WB, hWB⟩ : ∃ WB, WB = w1.heap.size := ⟨_, rfl⟩
  obtain ⟨w2, hw2⟩ : ∃ w2, w2 = w1.alloc (.cells #[.slice none 0 0] 55) := ⟨_, rfl⟩
  have g2 : Below w1.heap.size w1 (w1.alloc (.cells #[.slice none 0 0] 55)) := by go_grown
  have b2 := Bl.new w1 [.slice none 0 0] 55
  have q2 := HB1.out.1.below g2
  have l2 := HB1.out.1.lt
  have e2 := Below.step HB1.out.2 g2
  rw [← hw2] at g2 b2 q2 e2
  rw [← hw2, ← hRB, ← hWB]
  rw [← hRB] at q2 l2
  rw [← hWB] at b2 g2 l2
  have HQ2 := Lib.hid q2
  have HRW := Lib.hid l2
  have HA2 : Hid (At WB w2 [] w2) := Lib.hid (At.of (v := .slice none 0 0) ⟨b2, World.ownsRow_nil _ _ _ _⟩ (Below.refl _ _))
  have HE2 := Lib.hid e2
  have HT2 := Lib.hid (HT.out.below e2)
  have HV2 : Hid (∀ wx, Below WB w2 wx → Vb wx) := Lib.hid (fun wx hb => by
    have h1 := HV.out.below HE2.out
    refine ⟨by have := hb.size; have := h1.lt; omega, fun j hj => (hb.cell (p := ⟨0, j, none⟩) ?_).trans (h1.cell j hj)⟩
    show 0 < WB
    have := HRW.out
    omega)
  have H1 : Hid (2 < WB) := Lib.hid (by have h1 := HT.out.lt; have h2 := HRW.out; omega)
  have HRE := Lib.hid hRB
  clear g2 b2 q2 l2 e2 hw2 hWB hRB
  have y2 := HQ2.out.cell 2 _ rfl
  go_wp2_with fail
  refine (put_1 WB w2 w2 [] t HA2.out (by decide) ⟨HRT.out.t.1, by have h5 : t ≤ 1000000 := HRT.out.t.2; omega⟩ H1.out HT2.out).mono ?_
  rintro e3 w3 ⟨rfl, hA3⟩
  have HA3 : Hid (At WB w2 [dcl t.toNat] w3) := Lib.hid hA3
  clear hA3 y2
  go_upto_region 6 with fail
  go_cut [] (fun wx => Hid (At WB w2 [dcl t.toNat, vbl k] wx))
  case first =>
    obtain ⟨A6, c6, hW6, hB6⟩ := HA3.out
    have gd : Below w3.heap.size w3 w3.drew := (Below.refl _ _).drew
    have h0 := And.intro (hW6.below gd) (stepB hB6 gd (Nat.le_of_lt hW6.1.lt))
    have q0 : Bl RB [.int .i64 k, .int .i64 cd, .int .i64 t, .int .i64 i, .int .i64 c, .bool ask, .int .i64 r0, .int .i64 r1, .int .i64 r2, .int .i64 r3, .int .i64 r4, .int .i64 r5, .slice A L.length cap] w3.drew := HQ2.out.keep h0.2 HRW.out
    go_wp2_with fail
    refine wp_region_held_drew (S := fun w' => Bl RB [.int .i64 k, .int .i64 cd, .int .i64 t, .int .i64 i, .int .i64 c, .bool ask, .int .i64 r0, .int .i64 r1, .int .i64 r2, .int .i64 r3, .int .i64 r4, .int .i64 r5, .slice A L.length cap] w') (by kernel_rfl) q0 (fun hHeld => ?_)
    generalize w3.drew = WD at h0 q0 hHeld ⊢
    have HW0 := Lib.hid h0
    have HQ0 := Lib.hid q0
    have HV0 := Lib.hid (HV2.out WD h0.2)
    have N1 := Lib.hid (show [dcl t.toNat].length + 1 ≤ maxLen from by unfold maxLen; simp)
    have N2 := Lib.hid (show ([dcl t.toNat].length + 1) * 16 ≤ 140737488355328 from by simp)
    clear hW6 hB6 gd h0 q0
    refine wpAnyH_take (i := 1) (oi := { dst := some 19, op := Op.fieldAddr 27 (Operand.tmp 1) 0, type := 0, pos := "answer.go:69", after := #[], guard := none }) (v := .pointer (some ⟨RB, 0, none⟩)) rfl (by as_aux_lemma => kernel_rfl) (by as_aux_lemma => kernel_rfl) (by as_aux_lemma => kernel_rfl) (fun _ _ _ h => h) (Or.inl ⟨by rfl, ?_⟩) (by assumption) ?_
    · intro wq hSw
      have y0 := hSw.cell 0 _ rfl
      have y6 := hSw.cell 6 _ rfl
      go_simp
      try with_reducible rfl
    simp only [Act.put, List.setIfInBounds_toArray, List.set_cons_zero, List.set_cons_succ]
    refine wpAnyH_take (i := 2) (oi := { dst := some 20, op := Op.load 3 (Operand.tmp 19), type := 3, pos := "answer.go:69", after := #[{ on := 1, ground := Ground.data }], guard := none }) (v := .int .i64 k) rfl (by as_aux_lemma => kernel_rfl) (by as_aux_lemma => kernel_rfl) (by as_aux_lemma => kernel_rfl) (fun _ _ _ h => h) (Or.inl ⟨by rfl, ?_⟩) (by assumption) ?_
    · intro wq hSw
      have y0 := hSw.cell 0 _ rfl
      have y6 := hSw.cell 6 _ rfl
      go_simp
      try with_reducible rfl
    simp only [Act.put, List.setIfInBounds_toArray, List.set_cons_zero, List.set_cons_succ]
    refine wpAnyH_ready (rs := [0, 3]) (by as_aux_lemma => kernel_rfl) (by simp) ?_
    refine AllReadyH.cons (o := { dst := some 18, op := Op.load 55 (Operand.tmp 4), type := 55, pos := "answer.go:69", after := #[], guard := none }) rfl (fun K2 hK => ?_) (AllReadyH.cons (o := { dst := some 21, op := Op.call { callee := Callee.value (Operand.func 22), args := #[Operand.tmp 20], argTypes := #[3] }, type := 9, pos := "answer.go:69", after := #[{ on := 2, ground := Ground.data }], guard := none }) rfl (fun K2 hK => ?_) AllReadyH.nil)
    · have xl := HW0.out.1.1.cell 0 _ rfl
      go_simp
      clear xl
      refine hK.out _ _ (HQ0.out) (fun _ => ?_)
      clear hK K2
      try simp only [Act.put, List.setIfInBounds_toArray, List.set_cons_zero, List.set_cons_succ]
      refine wpAnyH_ready (rs := [3]) (by as_aux_lemma => kernel_rfl) (by simp) ?_
      refine AllReadyH.cons (o := { dst := some 21, op := Op.call { callee := Callee.value (Operand.func 22), args := #[Operand.tmp 20], argTypes := #[3] }, type := 9, pos := "answer.go:69", after := #[{ on := 2, ground := Ground.data }], guard := none }) rfl (fun K2 hK => ?_) AllReadyH.nil
      go_simp
      go_at_call 22
      refine (verb_bs k HRT.out.k WD HV0.out).mono ?_
      rintro e7 w7 ⟨rfl, hw7⟩
      subst hw7
      have HW7 := HW0
      have HQ7 := HQ0
      have g9 : Below WD.heap.size WD (WD.alloc (Obj.cells #[.string (Bs (vbl k))] 9)) := by go_grown
      have HW9 := Lib.hid (And.intro (HW7.out.1.below g9) (stepB HW7.out.2 g9 (Nat.le_of_lt HW7.out.1.1.lt)))
      have HQ9 := Lib.hid (HQ7.out.below g9)
      have HRD := Lib.hid (reads_newN WD 1 1 [.string (Bs (vbl k))] 9 rfl)
      have N3 := Lib.hid (show WB + 1 ≤ (WD.alloc (Obj.cells #[.string (Bs (vbl k))] 9)).heap.size from by have := HW9.out.1.1.lt; omega)
      clear g9
      refine hK.out _ _ (HQ7.out) (fun _ => ?_)
      clear hK K2
      try simp only [Act.put, List.setIfInBounds_toArray, List.set_cons_zero, List.set_cons_succ]
      refine wpAnyH_ready (rs := [4]) (by as_aux_lemma => kernel_rfl) (by simp) ?_
      refine AllReadyH.cons (o := { dst := some 22, op := Op.buildSlice 55 1 #[(0, Operand.tmp 21)], type := 55, pos := "answer.go:69", after := #[{ on := 3, ground := Ground.data }], guard := none }) rfl (fun K2 hK => ?_) AllReadyH.nil
      go_simp
      refine hK.out _ _ (HQ9.out) (fun _ => ?_)
      clear hK K2
      try simp only [Act.put, List.setIfInBounds_toArray, List.set_cons_zero, List.set_cons_succ]
      refine wpAnyH_ready (rs := [5]) (by as_aux_lemma => kernel_rfl) (by simp) ?_
      refine AllReadyH.cons (o := { dst := some 23, op := Op.call { callee := Callee.builtin Builtin.append, args := #[Operand.tmp 18, Operand.tmp 22], argTypes := #[55, 55] }, type := 55, pos := "answer.go:69", after := #[{ on := 0, ground := Ground.data }, { on := 4, ground := Ground.data }, { on := 3, ground := Ground.chain }], guard := none }) rfl (fun K2 hK => ?_) AllReadyH.nil
      refine wp_append_any _ (.tmp 18) (.tmp 22) 55 rfl (WB + 1) 9 i0s (.string ⟨#[]⟩) 1 16 Tryz.underlying55 HII.out HZ0.out HZ1.out HZ2.out rfl (by decide) _ _ _ rfl HW9.out.1.2 _ _ 1 1 [.string (Bs (vbl k))] rfl HRD.out (by intro u hu; simp only [List.mem_cons, List.not_mem_nil, or_false] at hu; subst hu; rfl) N1.out N2.out N3.out (fun v3 w8 hown3 hgrow3 hblk3 => ?_)
      obtain ⟨A8, c8, hv8⟩ := oshape hown3
      subst hv8
      have HPP := Lib.hid (And.intro hown3 (And.intro hgrow3 hblk3))
      have HB8 := Lib.hid (bl_grown HW9.out.1.1 hgrow3 (fun b e => by have := (HW9.out.1.own_ne b e).1; omega))
      have HQ8 := Lib.hid (bl_grown HQ9.out hgrow3 (fun b e => by have h1 := (HW9.out.1.own_ne b e).1; have h2 := HRW.out; omega))
      clear hown3 hgrow3 hblk3
      refine hK.out _ _ (HQ8.out) (fun _ => ?_)
      clear hK K2
      try simp only [Act.put, List.setIfInBounds_toArray, List.set_cons_zero, List.set_cons_succ]
      refine wpAnyH_ready (rs := [6]) (by as_aux_lemma => kernel_rfl) (by simp) ?_
      refine AllReadyH.cons (o := { dst := none, op := Op.store 55 (Operand.tmp 4) (Operand.tmp 23), type := 0, pos := "answer.go:69", after := #[{ on := 5, ground := Ground.data }, { on := 5, ground := Ground.chain }, { on := 0, ground := Ground.phase }, { on := 1, ground := Ground.phase }, { on := 2, ground := Ground.phase }, { on := 3, ground := Ground.phase }, { on := 4, ground := Ground.phase }, { on := 5, ground := Ground.phase }], guard := none }) rfl (fun K2 hK => ?_) AllReadyH.nil
      have xb := HB8.out.cell 0 _ rfl
      have xf := HB8.out.frz 0
      go_simp
      clear xb xf
      refine hK.out _ _ (Bl.far HQ8.out (p := ⟨WB, 0, none⟩) (fun e => by have h2 := HRW.out; have : WB = RB := e; omega) _) (fun _ => ?_)
      clear hK K2
      try simp only [Act.put, List.setIfInBounds_toArray, List.set_cons_zero, List.set_cons_succ]
      refine wpAnyH_done (by as_aux_lemma => kernel_rfl) ?_ _
      go_wp2_with fail
      go_meet
      case rel => exact Lib.hid (told_at HW9.out.1 HW9.out.2 HQ2.out HRW.out (by simpa using HPP.out.1) HPP.out.2.1 HPP.out.2.2)
    · go_simp
      go_at_call 22
      refine (verb_bs k HRT.out.k WD HV0.out).mono ?_
      rintro e7 w7 ⟨rfl, hw7⟩
      subst hw7
      have HW7 := HW0
      have HQ7 := HQ0
      have g9 : Below WD.heap.size WD (WD.alloc (Obj.cells #[.string (Bs (vbl k))] 9)) := by go_grown
      have HW9 := Lib.hid (And.intro (HW7.out.1.below g9) (stepB HW7.out.2 g9 (Nat.le_of_lt HW7.out.1.1.lt)))
      have HQ9 := Lib.hid (HQ7.out.below g9)
      have HRD := Lib.hid (reads_newN WD 1 1 [.string (Bs (vbl k))] 9 rfl)
      have N3 := Lib.hid (show WB + 1 ≤ (WD.alloc (Obj.cells #[.string (Bs (vbl k))] 9)).heap.size from by have := HW9.out.1.1.lt; omega)
      clear g9
      refine hK.out _ _ (HQ7.out) (fun _ => ?_)
      clear hK K2
      try simp only [Act.put, List.setIfInBounds_toArray, List.set_cons_zero, List.set_cons_succ]
      refine wpAnyH_ready (rs := [0, 4]) (by as_aux_lemma => kernel_rfl) (by simp) ?_
      refine AllReadyH.cons (o := { dst := some 18, op := Op.load 55 (Operand.tmp 4), type := 55, pos := "answer.go:69", after := #[], guard := none }) rfl (fun K2 hK => ?_) (AllReadyH.cons (o := { dst := some 22, op := Op.buildSlice 55 1 #[(0, Operand.tmp 21)], type := 55, pos := "answer.go:69", after := #[{ on := 3, ground := Ground.data }], guard := none }) rfl (fun K2 hK => ?_) AllReadyH.nil)
      · have xl := HW7.out.1.1.cell 0 _ rfl
        go_simp
        clear xl
        refine hK.out _ _ (HQ7.out) (fun _ => ?_)
        clear hK K2
        try simp only [Act.put, List.setIfInBounds_toArray, List.set_cons_zero, List.set_cons_succ]
        refine wpAnyH_ready (rs := [4]) (by as_aux_lemma => kernel_rfl) (by simp) ?_
        refine AllReadyH.cons (o := { dst := some 22, op := Op.buildSlice 55 1 #[(0, Operand.tmp 21)], type := 55, pos := "answer.go:69", after := #[{ on := 3, ground := Ground.data }], guard := none }) rfl (fun K2 hK => ?_) AllReadyH.nil
        go_simp
        refine hK.out _ _ (HQ9.out) (fun _ => ?_)
        clear hK K2
        try simp only [Act.put, List.setIfInBounds_toArray, List.set_cons_zero, List.set_cons_succ]
        refine wpAnyH_ready (rs := [5]) (by as_aux_lemma => kernel_rfl) (by simp) ?_
        refine AllReadyH.cons (o := { dst := some 23, op := Op.call { callee := Callee.builtin Builtin.append, args := #[Operand.tmp 18, Operand.tmp 22], argTypes := #[55, 55] }, type := 55, pos := "answer.go:69", after := #[{ on := 0, ground := Ground.data }, { on := 4, ground := Ground.data }, { on := 3, ground := Ground.chain }], guard := none }) rfl (fun K2 hK => ?_) AllReadyH.nil
        refine wp_append_any _ (.tmp 18) (.tmp 22) 55 rfl (WB + 1) 9 i0s (.string ⟨#[]⟩) 1 16 Tryz.underlying55 HII.out HZ0.out HZ1.out HZ2.out rfl (by decide) _ _ _ rfl HW9.out.1.2 _ _ 1 1 [.string (Bs (vbl k))] rfl HRD.out (by intro u hu; simp only [List.mem_cons, List.not_mem_nil, or_false] at hu; subst hu; rfl) N1.out N2.out N3.out (fun v3 w8 hown3 hgrow3 hblk3 => ?_)
        obtain ⟨A8, c8, hv8⟩ := oshape hown3
        subst hv8
        have HPP := Lib.hid (And.intro hown3 (And.intro hgrow3 hblk3))
        have HB8 := Lib.hid (bl_grown HW9.out.1.1 hgrow3 (fun b e => by have := (HW9.out.1.own_ne b e).1; omega))
        have HQ8 := Lib.hid (bl_grown HQ9.out hgrow3 (fun b e => by have h1 := (HW9.out.1.own_ne b e).1; have h2 := HRW.out; omega))
        clear hown3 hgrow3 hblk3
        refine hK.out _ _ (HQ8.out) (fun _ => ?_)
        clear hK K2
        try simp only [Act.put, List.setIfInBounds_toArray, List.set_cons_zero, List.set_cons_succ]
        refine wpAnyH_ready (rs := [6]) (by as_aux_lemma => kernel_rfl) (by simp) ?_
        refine AllReadyH.cons (o := { dst := none, op := Op.store 55 (Operand.tmp 4) (Operand.tmp 23), type := 0, pos := "answer.go:69", after := #[{ on := 5, ground := Ground.data }, { on := 5, ground := Ground.chain }, { on := 0, ground := Ground.phase }, { on := 1, ground := Ground.phase }, { on := 2, ground := Ground.phase }, { on := 3, ground := Ground.phase }, { on := 4, ground := Ground.phase }, { on := 5, ground := Ground.phase }], guard := none }) rfl (fun K2 hK => ?_) AllReadyH.nil
        have xb := HB8.out.cell 0 _ rfl
        have xf := HB8.out.frz 0
        go_simp
        clear xb xf
        refine hK.out _ _ (Bl.far HQ8.out (p := ⟨WB, 0, none⟩) (fun e => by have h2 := HRW.out; have : WB = RB := e; omega) _) (fun _ => ?_)
        clear hK K2
        try simp only [Act.put, List.setIfInBounds_toArray, List.set_cons_zero, List.set_cons_succ]
        refine wpAnyH_done (by as_aux_lemma => kernel_rfl) ?_ _
        go_wp2_with fail
        go_meet
        case rel => exact Lib.hid (told_at HW9.out.1 HW9.out.2 HQ2.out HRW.out (by simpa using HPP.out.1) HPP.out.2.1 HPP.out.2.2)
      · go_simp
        refine hK.out _ _ (HQ9.out) (fun _ => ?_)
        clear hK K2
        try simp only [Act.put, List.setIfInBounds_toArray, List.set_cons_zero, List.set_cons_succ]
        refine wpAnyH_ready (rs := [0]) (by as_aux_lemma => kernel_rfl) (by simp) ?_
        refine AllReadyH.cons (o := { dst := some 18, op := Op.load 55 (Operand.tmp 4), type := 55, pos := "answer.go:69", after := #[], guard := none }) rfl (fun K2 hK => ?_) AllReadyH.nil
        have xl := HW9.out.1.1.cell 0 _ rfl
        go_simp
        clear xl
        refine hK.out _ _ (HQ9.out) (fun _ => ?_)
        clear hK K2
        try simp only [Act.put, List.setIfInBounds_toArray, List.set_cons_zero, List.set_cons_succ]
        refine wpAnyH_ready (rs := [5]) (by as_aux_lemma => kernel_rfl) (by simp) ?_
        refine AllReadyH.cons (o := { dst := some 23, op := Op.call { callee := Callee.builtin Builtin.append, args := #[Operand.tmp 18, Operand.tmp 22], argTypes := #[55, 55] }, type := 55, pos := "answer.go:69", after := #[{ on := 0, ground := Ground.data }, { on := 4, ground := Ground.data }, { on := 3, ground := Ground.chain }], guard := none }) rfl (fun K2 hK => ?_) AllReadyH.nil
        refine wp_append_any _ (.tmp 18) (.tmp 22) 55 rfl (WB + 1) 9 i0s (.string ⟨#[]⟩) 1 16 Tryz.underlying55 HII.out HZ0.out HZ1.out HZ2.out rfl (by decide) _ _ _ rfl HW9.out.1.2 _ _ 1 1 [.string (Bs (vbl k))] rfl HRD.out (by intro u hu; simp only [List.mem_cons, List.not_mem_nil, or_false] at hu; subst hu; rfl) N1.out N2.out N3.out (fun v3 w8 hown3 hgrow3 hblk3 => ?_)
        obtain ⟨A8, c8, hv8⟩ := oshape hown3
        subst hv8
        have HPP := Lib.hid (And.intro hown3 (And.intro hgrow3 hblk3))
        have HB8 := Lib.hid (bl_grown HW9.out.1.1 hgrow3 (fun b e => by have := (HW9.out.1.own_ne b e).1; omega))
        have HQ8 := Lib.hid (bl_grown HQ9.out hgrow3 (fun b e => by have h1 := (HW9.out.1.own_ne b e).1; have h2 := HRW.out; omega))
        clear hown3 hgrow3 hblk3
        refine hK.out _ _ (HQ8.out) (fun _ => ?_)
        clear hK K2
        try simp only [Act.put, List.setIfInBounds_toArray, List.set_cons_zero, List.set_cons_succ]
        refine wpAnyH_ready (rs := [6]) (by as_aux_lemma => kernel_rfl) (by simp) ?_
        refine AllReadyH.cons (o := { dst := none, op := Op.store 55 (Operand.tmp 4) (Operand.tmp 23), type := 0, pos := "answer.go:69", after := #[{ on := 5, ground := Ground.data }, { on := 5, ground := Ground.chain }, { on := 0, ground := Ground.phase }, { on := 1, ground := Ground.phase }, { on := 2, ground := Ground.phase }, { on := 3, ground := Ground.phase }, { on := 4, ground := Ground.phase }, { on := 5, ground := Ground.phase }], guard := none }) rfl (fun K2 hK => ?_) AllReadyH.nil
        have xb := HB8.out.cell 0 _ rfl
        have xf := HB8.out.frz 0
        go_simp
        clear xb xf
        refine hK.out _ _ (Bl.far HQ8.out (p := ⟨WB, 0, none⟩) (fun e => by have h2 := HRW.out; have : WB = RB := e; omega) _) (fun _ => ?_)
        clear hK K2
        try simp only [Act.put, List.setIfInBounds_toArray, List.set_cons_zero, List.set_cons_succ]
        refine wpAnyH_done (by as_aux_lemma => kernel_rfl) ?_ _
        go_wp2_with fail
        go_meet
        case rel => exact Lib.hid (told_at HW9.out.1 HW9.out.2 HQ2.out HRW.out (by simpa using HPP.out.1) HPP.out.2.1 HPP.out.2.2)
  case rest =>
    have HC := Lib.hid hcut.out
    have HGE : Hid ((0 ≤ i ∧ i ≤ 9223372036854775807) ∧ 0 ≤ c ∧ c ≤ 9223372036854775807) := Lib.hid (by
      have h1 : 0 ≤ i ∧ i ≤ 9999999 := HRT.out.i
      have h2 : 0 ≤ c ∧ c ≤ 9999999 := HRT.out.c
      omega)
    have HGE : Hid (0 ≤ i ∧ i ≤ 9223372036854775807 ∧ 0 ≤ c ∧ c ≤ 9223372036854775807) := Lib.hid ⟨HGE.out.1.1, HGE.out.1.2, HGE.out.2⟩
    have y0 := (HQ2.out.keep HC.out.bel HRW.out).cell 0 _ rfl
    clear hcut HA3 HA2 HRI HB HB1
    go_upto_block 0 with fail
    clear y0
    go_cut [] (fun wx => Hid (At WB w2 (dcl t.toNat :: vbl k :: ((if k ≤ 2 then [dcl i.toNat] else []) ++ (if k ≤ 3 then [dcl c.toNat] else []))) wx))
    case first =>
      have hk4 : k = 1 ∨ k = 2 ∨ k = 3 ∨ k = 4 := by have h9 : 1 ≤ k ∧ k ≤ 4 := HRT.out.k; omega
      rcases hk4 with rfl | rfl | rfl | rfl
      · -- kind 1
        have hq := HQ2.out.keep HC.out.bel HRW.out
        have y0 := hq.cell 0 _ rfl
        have y3 := hq.cell 3 _ rfl
        clear hq
        go_wp2_with fail
        refine (put_1 WB w2 wc _ i HC.out (by simp) ⟨HGE.out.1, HGE.out.2.1⟩ H1.out HT2.out).mono ?_
        rintro e4 w4 ⟨rfl, hA4⟩
        have HA4 := Lib.hid hA4
        clear hA4 y0 y3
        have y4 := (HQ2.out.keep HA4.out.bel HRW.out).cell 4 _ rfl
        go_wp2_with fail
        refine (put_1 WB w2 w4 _ c HA4.out (by simp) ⟨HGE.out.2.2.1, HGE.out.2.2.2⟩ H1.out HT2.out).mono ?_
        rintro e5 w5 ⟨rfl, hA5⟩
        have HA5 := Lib.hid hA5
        clear hA5 y4
        go_wp2_with fail
        go_meet
        case rel => exact Lib.hid (by simpa using HA5.out)
      · -- kind 2
        have hq := HQ2.out.keep HC.out.bel HRW.out
        have y0 := hq.cell 0 _ rfl
        have y3 := hq.cell 3 _ rfl
        clear hq
        go_wp2_with fail
        refine (put_1 WB w2 wc _ i HC.out (by simp) ⟨HGE.out.1, HGE.out.2.1⟩ H1.out HT2.out).mono ?_
        rintro e4 w4 ⟨rfl, hA4⟩
        have HA4 := Lib.hid hA4
        clear hA4 y0 y3
        have y4 := (HQ2.out.keep HA4.out.bel HRW.out).cell 4 _ rfl
        go_wp2_with fail
        refine (put_1 WB w2 w4 _ c HA4.out (by simp) ⟨HGE.out.2.2.1, HGE.out.2.2.2⟩ H1.out HT2.out).mono ?_
        rintro e5 w5 ⟨rfl, hA5⟩
        have HA5 := Lib.hid hA5
        clear hA5 y4
        go_wp2_with fail
        go_meet
        case rel => exact Lib.hid (by simpa using HA5.out)
      · -- kind 3
        have hq := HQ2.out.keep HC.out.bel HRW.out
        have y0 := hq.cell 0 _ rfl
        have y4 := hq.cell 4 _ rfl
        clear hq
        go_wp2_with fail
        refine (put_1 WB w2 wc _ c HC.out (by simp) ⟨HGE.out.2.2.1, HGE.out.2.2.2⟩ H1.out HT2.out).mono ?_
        rintro e5 w5 ⟨rfl, hA5⟩
        have HA5 := Lib.hid hA5
        clear hA5 y0 y4
        go_wp2_with fail
        go_meet
        case rel => exact Lib.hid (by simpa using HA5.out)
      · -- kind 4
        have hq := HQ2.out.keep HC.out.bel HRW.out
        have y0 := hq.cell 0 _ rfl
        clear hq
        go_wp2_with fail
        go_meet
        case rel => exact Lib.hid (by simpa using HC.out)
    case rest =>
      clear HC
      obtain ⟨XS, hXS⟩ : ∃ XS, XS = (dcl t.toNat :: vbl k :: ((if k ≤ 2 then [dcl i.toNat] else []) ++ (if k ≤ 3 then [dcl c.toNat] else []))) := ⟨_, rfl⟩
      have HC : Hid (At WB w2 XS wc) := Lib.hid (by rw [hXS]; exact hcut.out)
      have HXL : Hid (XS.length ≤ 4) := Lib.hid (by
        rw [hXS]
        by_cases h1 : k ≤ 2 <;> by_cases h2 : k ≤ 3 <;> simp [h1, h2])
      have N1 := Lib.hid (show XS.length + 1 ≤ maxLen from by have := HXL.out; unfold maxLen; omega)
      have N2 := Lib.hid (show (XS.length + 1) * 16 ≤ 140737488355328 from by have := HXL.out; omega)
      have HAW : Hid (aw ⟨k, cd, t, i, c, ask, r0, r1, r2, r3, r4, r5, L⟩ = XS ++ tl_ ⟨k, cd, t, i, c, ask, r0, r1, r2, r3, r4, r5, L⟩) := Lib.hid (by rw [hXS]; unfold aw; simp)
      clear hcut hXS
      have hq := HQ2.out.keep HC.out.bel HRW.out
      go_upto_block 3 with fail
      go_cut [] (fun wx => Hid (At WB w2 (aw ⟨k, cd, t, i, c, ask, r0, r1, r2, r3, r4, r5, L⟩) wx))
      case first =>
        have y1 := hq.cell 1 _ rfl
        have y5 := hq.cell 5 _ rfl
        have y0 := hq.cell 0 _ rfl
        clear hq
        by_cases hcd : cd = 0
        · subst hcd
          cases ask with
          | true =>
            have HTL : Hid (tl_ ⟨k, 0, t, i, c, true, r0, r1, r2, r3, r4, r5, L⟩ = [wAsk]) := Lib.hid (by unfold tl_; simp)
            obtain ⟨A6, c6, hW6, hB6⟩ := HC.out
            have xl := hW6.1.cell 0 _ rfl
            have g9 : Below wc.heap.size wc (wc.alloc (Obj.cells #[.string (Bs wAsk)] 9)) := by go_grown
            have HW9 := Lib.hid (And.intro (hW6.below g9) (stepB hB6 g9 (Nat.le_of_lt hW6.1.lt)))
            have HRD := Lib.hid (reads_newN wc 1 1 [.string (Bs wAsk)] 9 rfl)
            have N3 := Lib.hid (show WB + 1 ≤ (wc.alloc (Obj.cells #[.string (Bs wAsk)] 9)).heap.size from by have := HW9.out.1.1.lt; omega)
            clear g9 hW6 hB6
            go_wp2_with (at_builtin; refine wpList_append_any _ rfl (.tmp 59) (.tmp 60) 55 rfl (WB + 1) 9 i0s (.string ⟨#[]⟩) 1 16 Tryz.underlying55 HII.out HZ0.out HZ1.out HZ2.out rfl (by decide) _ XS.length (XS.map fun l => .string (Bs l)) rfl HW9.out.1.2 _ _ 1 1 [.string (Bs wAsk)] rfl HRD.out (by intro u hu; simp only [List.mem_cons, List.not_mem_nil, or_false] at hu; subst hu; rfl) N1.out N2.out N3.out ?_; intro v3 w8 hown3 hgrow3 hblk3; obtain ⟨A8, c8, hv8⟩ := oshape hown3; subst hv8; have HPP := Lib.hid (And.intro hown3 (And.intro hgrow3 hblk3)); have HB8 := Lib.hid (bl_grown HW9.out.1.1 hgrow3 (fun b e => by have := (HW9.out.1.own_ne b e).1; omega)); clear hown3 hgrow3 hblk3; have xb := HB8.out.cell 0 _ rfl; have xf := HB8.out.frz 0)
            go_wp2_with fail
            go_meet
            case rel =>
              rw [HAW.out, HTL.out]
              exact Lib.hid (told_at HW9.out.1 HW9.out.2 HQ2.out HRW.out (by simpa using HPP.out.1) HPP.out.2.1 HPP.out.2.2)
          | false =>
            by_cases h4 : k = 4
            · subst h4
              have HTL : Hid (tl_ ⟨4, 0, t, i, c, false, r0, r1, r2, r3, r4, r5, L⟩ = L.flatMap lw) := Lib.hid (by unfold tl_; simp)
              have HLR : Hid (∀ x ∈ L, lkR x = true) := Lib.hid (by
                rcases HRT.out.look with h | ⟨_, _, h⟩
                · have h9 : L = [] := h
                  rw [h9]; simp
                · exact h)
              have HLW : Hid (∀ wx, Below WB w2 wx → LkAt A L wx) := Lib.hid (fun wx hb h0 => by
                obtain ⟨ad, e, hl, hc⟩ := HLK.out h0
                have h5 := HRW.out
                have h6 := HRE.out
                have hk : ∀ j, wx.cell? (ad.add j) = w.cell? (ad.add j) := fun j => (hb.cell (p := ad.add j) (by rw [block_of_add]; omega)).trans (HE2.out.cell (p := ad.add j) (by rw [block_of_add]; exact hl))
                have h7 := HE2.out.size
                have h8 := hb.size
                exact ⟨ad, e, by omega, fun i x hx => ⟨(hk _).trans (hc i x hx).1, (hk _).trans (hc i x hx).2.1, (hk _).trans (hc i x hx).2.2⟩⟩)
              have y12 := (HQ2.out.keep HC.out.bel HRW.out).cell 12 _ rfl
              have n1 : (L.length : Int) ≤ 1000 := by have := HLL.out; omega
              have HA0 : Hid (At WB w2 (XS ++ (L.take 0).flatMap lw) wc) := Lib.hid (by simpa using HC.out)
              go_wp2_with fail
              go_loopw [96] (fun j wr => ∃ n : Nat, n ≤ L.length ∧ j = .int .i64 (n : Int) ∧ Hid (At WB w2 (XS ++ (L.take n).flatMap lw) wr)) (fun j _ => L.length + 1 - (intOf j).toNat)
              case atStart => exact ⟨0, Nat.zero_le _, rfl, HA0⟩
              case round =>
                clear HC HA0 y0 y1 y5 y12
                obtain ⟨n, hn, rfl, HM⟩ := hrel
                have i0 : (0 : Int) ≤ (n : Int) := by omega
                by_cases hlt : n < L.length
                · have hx : L[n]? = some L[n] := List.getElem?_eq_getElem hlt
                  have ha := lkR_out (HLR.out L[n] (List.getElem_mem hlt))
                  obtain ⟨ad, hA, hb, hc⟩ := (HLW.out wr HM.out.bel) (by omega)
                  obtain ⟨d0, d1', d2'⟩ := hc n _ hx
                  have hXX : (L.take (n + 1)).flatMap lw = (L.take n).flatMap lw ++ lw L[n] := by
                    rw [List.take_add_one, hx, List.flatMap_append]
                    simp
                  have hln := lws_len (L.take n)
                  have hln2 : (L.take n).length ≤ 1000 := by rw [List.length_take]; have := HLL.out; omega
                  subst hA
                  generalize L[n] = x at ha d0 d1' d2' hXX
                  obtain ⟨xk, xl, xf⟩ := x
                  simp only at ha d0 d1' d2'
                  have d1 : wr.cell? ⟨(ad.add (n * 3)).block, (ad.add (n * 3)).off + 1, none⟩ = some (.int .i64 xl) := by
                    rw [← addp _ 1 (by decide) (World.cell?_spot d0), add_of_add]; exact d1'
                  have d2 : wr.cell? ⟨(ad.add (n * 3)).block, (ad.add (n * 3)).off + 2, none⟩ = some (.int .i64 xf) := by
                    rw [← addp _ 2 (by decide) (World.cell?_spot d0), add_of_add]; exact d2'
                  have q1 : (n : Int) < (L.length : Int) := by omega
                  have Hi := Lib.hid hlt
                  have HXX : Hid ((L.take (n + 1)).flatMap lw = (L.take n).flatMap lw ++ [ln xk, dcl xl.toNat, dcl xf.toNat]) := Lib.hid hXX
                  obtain ⟨YS, hYS⟩ : ∃ YS, YS = XS ++ (L.take n).flatMap lw := ⟨_, rfl⟩
                  have HYL : Hid (YS.length ≤ 3004) := Lib.hid (by rw [hYS, List.length_append, hln]; have := HXL.out; omega)
                  have hM2 : At WB w2 YS wr := by rw [hYS]; exact HM.out
                  have HYS := Lib.hid hYS
                  obtain ⟨A6, c6, hW6, hB6⟩ := hM2
                  have gA : Below wr.heap.size wr (wr.alloc (.cells (List.toArray [.int .i64 xk, .int .i64 xl, .int .i64 xf]) 54)) := by go_grown
                  have bA := Bl.new wr [.int .i64 xk, .int .i64 xl, .int .i64 xf] 54
                  obtain ⟨WL, hWL⟩ : ∃ WL, WL = (wr.alloc (.cells (List.toArray [.int .i64 xk, .int .i64 xl, .int .i64 xf]) 54)) := ⟨_, rfl⟩
                  obtain ⟨LB, hLB⟩ : ∃ LB, LB = wr.heap.size := ⟨_, rfl⟩
                  rw [← hWL] at gA bA
                  rw [← hLB] at bA
                  have HNE : Hid (WB < LB) := Lib.hid (by rw [hLB]; exact hW6.1.lt)
                  have HOL : Hid (∀ b, (Value.slice A6 YS.length c6).ownBlock = some b → b ≠ LB) := Lib.hid (fun b e => by have := (hW6.own_ne b e).2; omega)
                  have HL0 := Lib.hid (And.intro (hW6.below gA) (stepB hB6 gA (Nat.le_of_lt hW6.1.lt)))
                  have HLB := Lib.hid bA
                  have HAK := Lib.hid ha
                  have HWE := Lib.hid hWL
                  have HLE := Lib.hid hLB
                  have N1 := Lib.hid (show YS.length + 1 ≤ maxLen from by have := HYL.out; unfold maxLen; omega)
                  have N2 := Lib.hid (show (YS.length + 1) * 16 ≤ 140737488355328 from by have := HYL.out; omega)
                  clear hx hb hc d1' d2' ha hlt hn hXX hln hln2 hYS hW6 hB6 gA bA hWL hLB HM
                  go_upto_region 27 with fail
                  rw [← HWE.out, ← HLE.out]
                  clear d0 d1 d2
                  go_cut [] (fun wx => Hid (At WB w2 (YS ++ [ln xk]) wx ∧ Bl LB [.int .i64 xk, .int .i64 xl, .int .i64 xf] wx))
                  case first =>
                    have gd : Below WL.heap.size WL WL.drew := (Below.refl _ _).drew
                    have h0 := And.intro (HL0.out.1.below gd) (stepB HL0.out.2 gd (Nat.le_of_lt HL0.out.1.1.lt))
                    have q0 : Bl LB [.int .i64 xk, .int .i64 xl, .int .i64 xf] WL.drew := HLB.out.below gd
                    go_wp2_with fail
                    refine wp_region_held_drew (S := fun w' => Bl LB [.int .i64 xk, .int .i64 xl, .int .i64 xf] w') (by kernel_rfl) q0 (fun hHeld => ?_)
                    generalize WL.drew = WD at h0 q0 hHeld ⊢
                    have HW0 := Lib.hid h0
                    have HQ0 := Lib.hid q0
                    clear gd h0 q0
                    refine wpAnyH_take (i := 1) (oi := { dst := some 101, op := Op.fieldAddr 54 (Operand.tmp 7) 0, type := 0, pos := "answer.go:90", after := #[], guard := none }) (v := .pointer (some ⟨LB, 0, none⟩)) rfl (by as_aux_lemma => kernel_rfl) (by as_aux_lemma => kernel_rfl) (by as_aux_lemma => kernel_rfl) (fun _ _ _ h => h) (Or.inl ⟨by rfl, ?_⟩) (by assumption) ?_
                    · intro wq hSw
                      have z0 := hSw.cell 0 _ rfl
                      skip
                      go_simp
                      try with_reducible rfl
                    simp only [Act.put, List.setIfInBounds_toArray, List.set_cons_zero, List.set_cons_succ]
                    refine wpAnyH_take (i := 2) (oi := { dst := some 102, op := Op.load 3 (Operand.tmp 101), type := 3, pos := "answer.go:90", after := #[{ on := 1, ground := Ground.data }], guard := none }) (v := .int .i64 xk) rfl (by as_aux_lemma => kernel_rfl) (by as_aux_lemma => kernel_rfl) (by as_aux_lemma => kernel_rfl) (fun _ _ _ h => h) (Or.inl ⟨by rfl, ?_⟩) (by assumption) ?_
                    · intro wq hSw
                      have z0 := hSw.cell 0 _ rfl
                      skip
                      go_simp
                      try with_reducible rfl
                    simp only [Act.put, List.setIfInBounds_toArray, List.set_cons_zero, List.set_cons_succ]
                    refine wpAnyH_ready (rs := [0, 3]) (by as_aux_lemma => kernel_rfl) (by simp) ?_
                    refine AllReadyH.cons (o := { dst := some 100, op := Op.load 55 (Operand.tmp 4), type := 55, pos := "answer.go:90", after := #[], guard := none }) rfl (fun K2 hK => ?_) (AllReadyH.cons (o := { dst := some 103, op := Op.call { callee := Callee.value (Operand.func 24), args := #[Operand.tmp 102], argTypes := #[3] }, type := 9, pos := "answer.go:90", after := #[{ on := 2, ground := Ground.data }], guard := none }) rfl (fun K2 hK => ?_) AllReadyH.nil)
                    · have xl := HW0.out.1.1.cell 0 _ rfl
                      go_simp
                      clear xl
                      refine hK.out _ _ (HQ0.out) (fun _ => ?_)
                      clear hK K2
                      try simp only [Act.put, List.setIfInBounds_toArray, List.set_cons_zero, List.set_cons_succ]
                      refine wpAnyH_ready (rs := [3]) (by as_aux_lemma => kernel_rfl) (by simp) ?_
                      refine AllReadyH.cons (o := { dst := some 103, op := Op.call { callee := Callee.value (Operand.func 24), args := #[Operand.tmp 102], argTypes := #[3] }, type := 9, pos := "answer.go:90", after := #[{ on := 2, ground := Ground.data }], guard := none }) rfl (fun K2 hK => ?_) AllReadyH.nil
                      go_simp
                      go_at_call 24
                      refine (look_is xk HAK.out.1 WD).mono ?_
                      rintro e7 w7 ⟨rfl, hb7⟩
                      have HW7 := Lib.hid (And.intro (HW0.out.1.below hb7) (stepB HW0.out.2 hb7 (Nat.le_of_lt HW0.out.1.1.lt)))
                      have HQ7 := Lib.hid (HQ0.out.below hb7)
                      clear hb7
                      have g9 : Below w7.heap.size w7 (w7.alloc (Obj.cells #[.string (Bs (ln xk))] 9)) := by go_grown
                      have HW9 := Lib.hid (And.intro (HW7.out.1.below g9) (stepB HW7.out.2 g9 (Nat.le_of_lt HW7.out.1.1.lt)))
                      have HQ9 := Lib.hid (HQ7.out.below g9)
                      have HRD := Lib.hid (reads_newN w7 1 1 [.string (Bs (ln xk))] 9 rfl)
                      have N3 := Lib.hid (show WB + 1 ≤ (w7.alloc (Obj.cells #[.string (Bs (ln xk))] 9)).heap.size from by have := HW9.out.1.1.lt; omega)
                      clear g9
                      refine hK.out _ _ (HQ7.out) (fun _ => ?_)
                      clear hK K2
                      try simp only [Act.put, List.setIfInBounds_toArray, List.set_cons_zero, List.set_cons_succ]
                      refine wpAnyH_ready (rs := [4]) (by as_aux_lemma => kernel_rfl) (by simp) ?_
                      refine AllReadyH.cons (o := { dst := some 104, op := Op.buildSlice 55 1 #[(0, Operand.tmp 103)], type := 55, pos := "answer.go:90", after := #[{ on := 3, ground := Ground.data }], guard := none }) rfl (fun K2 hK => ?_) AllReadyH.nil
                      go_simp
                      refine hK.out _ _ (HQ9.out) (fun _ => ?_)
                      clear hK K2
                      try simp only [Act.put, List.setIfInBounds_toArray, List.set_cons_zero, List.set_cons_succ]
                      refine wpAnyH_ready (rs := [5]) (by as_aux_lemma => kernel_rfl) (by simp) ?_
                      refine AllReadyH.cons (o := { dst := some 105, op := Op.call { callee := Callee.builtin Builtin.append, args := #[Operand.tmp 100, Operand.tmp 104], argTypes := #[55, 55] }, type := 55, pos := "answer.go:90", after := #[{ on := 0, ground := Ground.data }, { on := 4, ground := Ground.data }, { on := 3, ground := Ground.chain }], guard := none }) rfl (fun K2 hK => ?_) AllReadyH.nil
                      refine wp_append_any _ (.tmp 100) (.tmp 104) 55 rfl (WB + 1) 9 i0s (.string ⟨#[]⟩) 1 16 Tryz.underlying55 HII.out HZ0.out HZ1.out HZ2.out rfl (by decide) _ _ _ rfl HW9.out.1.2 _ _ 1 1 [.string (Bs (ln xk))] rfl HRD.out (by intro u hu; simp only [List.mem_cons, List.not_mem_nil, or_false] at hu; subst hu; rfl) N1.out N2.out N3.out (fun v3 w8 hown3 hgrow3 hblk3 => ?_)
                      obtain ⟨A8, c8, hv8⟩ := oshape hown3
                      subst hv8
                      have HPP := Lib.hid (And.intro hown3 (And.intro hgrow3 hblk3))
                      have HB8 := Lib.hid (bl_grown HW9.out.1.1 hgrow3 (fun b e => by have := (HW9.out.1.own_ne b e).1; omega))
                      have HQ8 := Lib.hid (bl_grown HQ9.out hgrow3 (fun b e => HOL.out b e))
                      clear hown3 hgrow3 hblk3
                      refine hK.out _ _ (HQ8.out) (fun _ => ?_)
                      clear hK K2
                      try simp only [Act.put, List.setIfInBounds_toArray, List.set_cons_zero, List.set_cons_succ]
                      refine wpAnyH_ready (rs := [6]) (by as_aux_lemma => kernel_rfl) (by simp) ?_
                      refine AllReadyH.cons (o := { dst := none, op := Op.store 55 (Operand.tmp 4) (Operand.tmp 105), type := 0, pos := "answer.go:90", after := #[{ on := 5, ground := Ground.data }, { on := 5, ground := Ground.chain }, { on := 0, ground := Ground.phase }, { on := 1, ground := Ground.phase }, { on := 2, ground := Ground.phase }, { on := 3, ground := Ground.phase }, { on := 4, ground := Ground.phase }, { on := 5, ground := Ground.phase }], guard := none }) rfl (fun K2 hK => ?_) AllReadyH.nil
                      have xb := HB8.out.cell 0 _ rfl
                      have xf := HB8.out.frz 0
                      go_simp
                      clear xb xf
                      refine hK.out _ _ (Bl.far HQ8.out (p := ⟨WB, 0, none⟩) (fun e => by have h2 := HNE.out; have : WB = LB := e; omega) _) (fun _ => ?_)
                      clear hK K2
                      try simp only [Act.put, List.setIfInBounds_toArray, List.set_cons_zero, List.set_cons_succ]
                      refine wpAnyH_done (by as_aux_lemma => kernel_rfl) ?_ _
                      go_wp2_with fail
                      go_meet
                      case rel =>
                        have ht := told HW9.out.1 (x := ln xk) (by simpa using HPP.out.1) HPP.out.2.1 (HPP.out.2.2.elim (fun h => Or.inl h.symm) Or.inr) HQ9.out (by have := HNE.out; omega) HOL.out HW9.out.2
                        exact Lib.hid ⟨At.of ht.1 ht.2.2.2, ht.2.1⟩
                    · go_simp
                      go_at_call 24
                      refine (look_is xk HAK.out.1 WD).mono ?_
                      rintro e7 w7 ⟨rfl, hb7⟩
                      have HW7 := Lib.hid (And.intro (HW0.out.1.below hb7) (stepB HW0.out.2 hb7 (Nat.le_of_lt HW0.out.1.1.lt)))
                      have HQ7 := Lib.hid (HQ0.out.below hb7)
                      clear hb7
                      have g9 : Below w7.heap.size w7 (w7.alloc (Obj.cells #[.string (Bs (ln xk))] 9)) := by go_grown
                      have HW9 := Lib.hid (And.intro (HW7.out.1.below g9) (stepB HW7.out.2 g9 (Nat.le_of_lt HW7.out.1.1.lt)))
                      have HQ9 := Lib.hid (HQ7.out.below g9)
                      have HRD := Lib.hid (reads_newN w7 1 1 [.string (Bs (ln xk))] 9 rfl)
                      have N3 := Lib.hid (show WB + 1 ≤ (w7.alloc (Obj.cells #[.string (Bs (ln xk))] 9)).heap.size from by have := HW9.out.1.1.lt; omega)
                      clear g9
                      refine hK.out _ _ (HQ7.out) (fun _ => ?_)
                      clear hK K2
                      try simp only [Act.put, List.setIfInBounds_toArray, List.set_cons_zero, List.set_cons_succ]
                      refine wpAnyH_ready (rs := [0, 4]) (by as_aux_lemma => kernel_rfl) (by simp) ?_
                      refine AllReadyH.cons (o := { dst := some 100, op := Op.load 55 (Operand.tmp 4), type := 55, pos := "answer.go:90", after := #[], guard := none }) rfl (fun K2 hK => ?_) (AllReadyH.cons (o := { dst := some 104, op := Op.buildSlice 55 1 #[(0, Operand.tmp 103)], type := 55, pos := "answer.go:90", after := #[{ on := 3, ground := Ground.data }], guard := none }) rfl (fun K2 hK => ?_) AllReadyH.nil)
                      · have xl := HW7.out.1.1.cell 0 _ rfl
                        go_simp
                        clear xl
                        refine hK.out _ _ (HQ7.out) (fun _ => ?_)
                        clear hK K2
                        try simp only [Act.put, List.setIfInBounds_toArray, List.set_cons_zero, List.set_cons_succ]
                        refine wpAnyH_ready (rs := [4]) (by as_aux_lemma => kernel_rfl) (by simp) ?_
                        refine AllReadyH.cons (o := { dst := some 104, op := Op.buildSlice 55 1 #[(0, Operand.tmp 103)], type := 55, pos := "answer.go:90", after := #[{ on := 3, ground := Ground.data }], guard := none }) rfl (fun K2 hK => ?_) AllReadyH.nil
                        go_simp
                        refine hK.out _ _ (HQ9.out) (fun _ => ?_)
                        clear hK K2
                        try simp only [Act.put, List.setIfInBounds_toArray, List.set_cons_zero, List.set_cons_succ]
                        refine wpAnyH_ready (rs := [5]) (by as_aux_lemma => kernel_rfl) (by simp) ?_
                        refine AllReadyH.cons (o := { dst := some 105, op := Op.call { callee := Callee.builtin Builtin.append, args := #[Operand.tmp 100, Operand.tmp 104], argTypes := #[55, 55] }, type := 55, pos := "answer.go:90", after := #[{ on := 0, ground := Ground.data }, { on := 4, ground := Ground.data }, { on := 3, ground := Ground.chain }], guard := none }) rfl (fun K2 hK => ?_) AllReadyH.nil
                        refine wp_append_any _ (.tmp 100) (.tmp 104) 55 rfl (WB + 1) 9 i0s (.string ⟨#[]⟩) 1 16 Tryz.underlying55 HII.out HZ0.out HZ1.out HZ2.out rfl (by decide) _ _ _ rfl HW9.out.1.2 _ _ 1 1 [.string (Bs (ln xk))] rfl HRD.out (by intro u hu; simp only [List.mem_cons, List.not_mem_nil, or_false] at hu; subst hu; rfl) N1.out N2.out N3.out (fun v3 w8 hown3 hgrow3 hblk3 => ?_)
                        obtain ⟨A8, c8, hv8⟩ := oshape hown3
                        subst hv8
                        have HPP := Lib.hid (And.intro hown3 (And.intro hgrow3 hblk3))
                        have HB8 := Lib.hid (bl_grown HW9.out.1.1 hgrow3 (fun b e => by have := (HW9.out.1.own_ne b e).1; omega))
                        have HQ8 := Lib.hid (bl_grown HQ9.out hgrow3 (fun b e => HOL.out b e))
                        clear hown3 hgrow3 hblk3
                        refine hK.out _ _ (HQ8.out) (fun _ => ?_)
                        clear hK K2
                        try simp only [Act.put, List.setIfInBounds_toArray, List.set_cons_zero, List.set_cons_succ]
                        refine wpAnyH_ready (rs := [6]) (by as_aux_lemma => kernel_rfl) (by simp) ?_
                        refine AllReadyH.cons (o := { dst := none, op := Op.store 55 (Operand.tmp 4) (Operand.tmp 105), type := 0, pos := "answer.go:90", after := #[{ on := 5, ground := Ground.data }, { on := 5, ground := Ground.chain }, { on := 0, ground := Ground.phase }, { on := 1, ground := Ground.phase }, { on := 2, ground := Ground.phase }, { on := 3, ground := Ground.phase }, { on := 4, ground := Ground.phase }, { on := 5, ground := Ground.phase }], guard := none }) rfl (fun K2 hK => ?_) AllReadyH.nil
                        have xb := HB8.out.cell 0 _ rfl
                        have xf := HB8.out.frz 0
                        go_simp
                        clear xb xf
                        refine hK.out _ _ (Bl.far HQ8.out (p := ⟨WB, 0, none⟩) (fun e => by have h2 := HNE.out; have : WB = LB := e; omega) _) (fun _ => ?_)
                        clear hK K2
                        try simp only [Act.put, List.setIfInBounds_toArray, List.set_cons_zero, List.set_cons_succ]
                        refine wpAnyH_done (by as_aux_lemma => kernel_rfl) ?_ _
                        go_wp2_with fail
                        go_meet
                        case rel =>
                          have ht := told HW9.out.1 (x := ln xk) (by simpa using HPP.out.1) HPP.out.2.1 (HPP.out.2.2.elim (fun h => Or.inl h.symm) Or.inr) HQ9.out (by have := HNE.out; omega) HOL.out HW9.out.2
                          exact Lib.hid ⟨At.of ht.1 ht.2.2.2, ht.2.1⟩
                      · go_simp
                        refine hK.out _ _ (HQ9.out) (fun _ => ?_)
                        clear hK K2
                        try simp only [Act.put, List.setIfInBounds_toArray, List.set_cons_zero, List.set_cons_succ]
                        refine wpAnyH_ready (rs := [0]) (by as_aux_lemma => kernel_rfl) (by simp) ?_
                        refine AllReadyH.cons (o := { dst := some 100, op := Op.load 55 (Operand.tmp 4), type := 55, pos := "answer.go:90", after := #[], guard := none }) rfl (fun K2 hK => ?_) AllReadyH.nil
                        have xl := HW9.out.1.1.cell 0 _ rfl
                        go_simp
                        clear xl
                        refine hK.out _ _ (HQ9.out) (fun _ => ?_)
                        clear hK K2
                        try simp only [Act.put, List.setIfInBounds_toArray, List.set_cons_zero, List.set_cons_succ]
                        refine wpAnyH_ready (rs := [5]) (by as_aux_lemma => kernel_rfl) (by simp) ?_
                        refine AllReadyH.cons (o := { dst := some 105, op := Op.call { callee := Callee.builtin Builtin.append, args := #[Operand.tmp 100, Operand.tmp 104], argTypes := #[55, 55] }, type := 55, pos := "answer.go:90", after := #[{ on := 0, ground := Ground.data }, { on := 4, ground := Ground.data }, { on := 3, ground := Ground.chain }], guard := none }) rfl (fun K2 hK => ?_) AllReadyH.nil
                        refine wp_append_any _ (.tmp 100) (.tmp 104) 55 rfl (WB + 1) 9 i0s (.string ⟨#[]⟩) 1 16 Tryz.underlying55 HII.out HZ0.out HZ1.out HZ2.out rfl (by decide) _ _ _ rfl HW9.out.1.2 _ _ 1 1 [.string (Bs (ln xk))] rfl HRD.out (by intro u hu; simp only [List.mem_cons, List.not_mem_nil, or_false] at hu; subst hu; rfl) N1.out N2.out N3.out (fun v3 w8 hown3 hgrow3 hblk3 => ?_)
                        obtain ⟨A8, c8, hv8⟩ := oshape hown3
                        subst hv8
                        have HPP := Lib.hid (And.intro hown3 (And.intro hgrow3 hblk3))
                        have HB8 := Lib.hid (bl_grown HW9.out.1.1 hgrow3 (fun b e => by have := (HW9.out.1.own_ne b e).1; omega))
                        have HQ8 := Lib.hid (bl_grown HQ9.out hgrow3 (fun b e => HOL.out b e))
                        clear hown3 hgrow3 hblk3
                        refine hK.out _ _ (HQ8.out) (fun _ => ?_)
                        clear hK K2
                        try simp only [Act.put, List.setIfInBounds_toArray, List.set_cons_zero, List.set_cons_succ]
                        refine wpAnyH_ready (rs := [6]) (by as_aux_lemma => kernel_rfl) (by simp) ?_
                        refine AllReadyH.cons (o := { dst := none, op := Op.store 55 (Operand.tmp 4) (Operand.tmp 105), type := 0, pos := "answer.go:90", after := #[{ on := 5, ground := Ground.data }, { on := 5, ground := Ground.chain }, { on := 0, ground := Ground.phase }, { on := 1, ground := Ground.phase }, { on := 2, ground := Ground.phase }, { on := 3, ground := Ground.phase }, { on := 4, ground := Ground.phase }, { on := 5, ground := Ground.phase }], guard := none }) rfl (fun K2 hK => ?_) AllReadyH.nil
                        have xb := HB8.out.cell 0 _ rfl
                        have xf := HB8.out.frz 0
                        go_simp
                        clear xb xf
                        refine hK.out _ _ (Bl.far HQ8.out (p := ⟨WB, 0, none⟩) (fun e => by have h2 := HNE.out; have : WB = LB := e; omega) _) (fun _ => ?_)
                        clear hK K2
                        try simp only [Act.put, List.setIfInBounds_toArray, List.set_cons_zero, List.set_cons_succ]
                        refine wpAnyH_done (by as_aux_lemma => kernel_rfl) ?_ _
                        go_wp2_with fail
                        go_meet
                        case rel =>
                          have ht := told HW9.out.1 (x := ln xk) (by simpa using HPP.out.1) HPP.out.2.1 (HPP.out.2.2.elim (fun h => Or.inl h.symm) Or.inr) HQ9.out (by have := HNE.out; omega) HOL.out HW9.out.2
                          exact Lib.hid ⟨At.of ht.1 ht.2.2.2, ht.2.1⟩
                  case rest =>
                    have HA7 := Lib.hid hcut.out
                    clear hcut
                    have z1 := HA7.out.2.cell 1 _ rfl
                    have z2 := HA7.out.2.cell 2 _ rfl
                    go_wp2_with fail
                    refine (put_2 WB w2 _ _ xl xf HA7.out.1 (by have := HYL.out; simp; omega) (by have := HAK.out.2.1; omega) (by have := HAK.out.2.2; omega) H1.out HT2.out).mono ?_
                    rintro e5 w5 ⟨rfl, hA5⟩
                    have HA5 := Lib.hid hA5
                    clear hA5 z1 z2
                    go_wp2_with fail
                    go_roundw
                    case rel =>
                      refine ⟨n + 1, Hi.out, by go_num, Lib.hid ?_⟩
                      rw [HXX.out, ← List.append_assoc, ← HYS.out]
                      simpa using HA5.out
                    case measure => have := Hi.out; simp [intOf]; omega
                · obtain rfl : n = L.length := by omega
                  have q5 : decide ((L.length : Int) < (L.length : Int)) = false := decide_eq_false (by omega)
                  clear hn hlt
                  go_wp2_with fail
                  go_meet
                  case rel =>
                    rw [HAW.out, HTL.out]
                    exact Lib.hid (by simpa [List.take_length] using HM.out)
            · by_cases h3 : k = 3
              · subst h3
                have hr : (r0 = 0 ∧ r1 = 0 ∧ r2 = 0 ∧ r3 = 0 ∧ r4 = 0 ∧ r5 = 0) ∨ ((1 ≤ r0 ∧ r0 ≤ 5) ∧ (0 ≤ r1 ∧ r1 ≤ 9999999) ∧ (0 ≤ r2 ∧ r2 ≤ 9999999) ∧ (0 ≤ r3 ∧ r3 ≤ 9999999) ∧ r4 = 0 ∧ r5 = 0) := by
                  rcases HRT.out.rec_ with h | ⟨_, _, h⟩
                  · exact Or.inl (recZ_out h)
                  · exact Or.inr (recR_out h)
                have HRG : Hid ((0 ≤ r0 ∧ r0 ≤ 5) ∧ (0 ≤ r1 ∧ r1 ≤ 9223372036854775807) ∧ (0 ≤ r2 ∧ r2 ≤ 9223372036854775807) ∧ (0 ≤ r3 ∧ r3 ≤ 9223372036854775807)) := Lib.hid (by omega)
                have HTL : Hid (tl_ ⟨3, 0, t, i, c, false, r0, r1, r2, r3, r4, r5, L⟩ = if r0 ≠ 0 then [rn r0, dcl r1.toNat, dcl r2.toNat, dcl r3.toNat] else [rn r0]) := Lib.hid (by unfold tl_; simp)
                clear hr h4
                go_upto_region 20 with fail
                go_cut [] (fun wx => Hid (At WB w2 (XS ++ [rn r0]) wx))
                case first =>
                  obtain ⟨A6, c6, hW6, hB6⟩ := HC.out
                  have gd : Below wc.heap.size wc wc.drew := (Below.refl _ _).drew
                  have h0 := And.intro (hW6.below gd) (stepB hB6 gd (Nat.le_of_lt hW6.1.lt))
                  have q0 : Bl RB [.int .i64 3, .int .i64 0, .int .i64 t, .int .i64 i, .int .i64 c, .bool false, .int .i64 r0, .int .i64 r1, .int .i64 r2, .int .i64 r3, .int .i64 r4, .int .i64 r5, .slice A L.length cap] wc.drew := HQ2.out.keep h0.2 HRW.out
                  clear y0 y1 y5
                  go_wp2_with fail
                  refine wp_region_held_drew (S := fun w' => Bl RB [.int .i64 3, .int .i64 0, .int .i64 t, .int .i64 i, .int .i64 c, .bool false, .int .i64 r0, .int .i64 r1, .int .i64 r2, .int .i64 r3, .int .i64 r4, .int .i64 r5, .slice A L.length cap] w') (by kernel_rfl) q0 (fun hHeld => ?_)
                  generalize wc.drew = WD at h0 q0 hHeld ⊢
                  have HW0 := Lib.hid h0
                  have HQ0 := Lib.hid q0
                  clear hW6 hB6 gd h0 q0
                  refine wpAnyH_take (i := 1) (oi := { dst := some 67, op := Op.fieldAddr 27 (Operand.tmp 1) 6, type := 0, pos := "answer.go:84", after := #[], guard := none }) (v := .pointer (some ⟨RB, 6, none⟩)) rfl (by as_aux_lemma => kernel_rfl) (by as_aux_lemma => kernel_rfl) (by as_aux_lemma => kernel_rfl) (fun _ _ _ h => h) (Or.inl ⟨by rfl, ?_⟩) (by assumption) ?_
                  · intro wq hSw
                    have y0 := hSw.cell 0 _ rfl
                    have y6 := hSw.cell 6 _ rfl
                    go_simp
                    try with_reducible rfl
                  simp only [Act.put, List.setIfInBounds_toArray, List.set_cons_zero, List.set_cons_succ]
                  refine wpAnyH_take (i := 2) (oi := { dst := some 68, op := Op.fieldAddr 24 (Operand.tmp 67) 0, type := 0, pos := "answer.go:84", after := #[{ on := 1, ground := Ground.data }], guard := none }) (v := .pointer (some ⟨RB, 6, none⟩)) rfl (by as_aux_lemma => kernel_rfl) (by as_aux_lemma => kernel_rfl) (by as_aux_lemma => kernel_rfl) (fun _ _ _ h => h) (Or.inl ⟨by rfl, ?_⟩) (by assumption) ?_
                  · intro wq hSw
                    have y0 := hSw.cell 0 _ rfl
                    have y6 := hSw.cell 6 _ rfl
                    go_simp
                    try with_reducible rfl
                  simp only [Act.put, List.setIfInBounds_toArray, List.set_cons_zero, List.set_cons_succ]
                  refine wpAnyH_take (i := 3) (oi := { dst := some 69, op := Op.load 3 (Operand.tmp 68), type := 3, pos := "answer.go:84", after := #[{ on := 2, ground := Ground.data }], guard := none }) (v := .int .i64 r0) rfl (by as_aux_lemma => kernel_rfl) (by as_aux_lemma => kernel_rfl) (by as_aux_lemma => kernel_rfl) (fun _ _ _ h => h) (Or.inl ⟨by rfl, ?_⟩) (by assumption) ?_
                  · intro wq hSw
                    have y0 := hSw.cell 0 _ rfl
                    have y6 := hSw.cell 6 _ rfl
                    go_simp
                    try with_reducible rfl
                  simp only [Act.put, List.setIfInBounds_toArray, List.set_cons_zero, List.set_cons_succ]
                  refine wpAnyH_ready (rs := [0, 4]) (by as_aux_lemma => kernel_rfl) (by simp) ?_
                  refine AllReadyH.cons (o := { dst := some 66, op := Op.load 55 (Operand.tmp 4), type := 55, pos := "answer.go:84", after := #[], guard := none }) rfl (fun K2 hK => ?_) (AllReadyH.cons (o := { dst := some 70, op := Op.call { callee := Callee.value (Operand.func 23), args := #[Operand.tmp 69], argTypes := #[3] }, type := 9, pos := "answer.go:84", after := #[{ on := 3, ground := Ground.data }], guard := none }) rfl (fun K2 hK => ?_) AllReadyH.nil)
                  · have xl := HW0.out.1.1.cell 0 _ rfl
                    go_simp
                    clear xl
                    refine hK.out _ _ (HQ0.out) (fun _ => ?_)
                    clear hK K2
                    try simp only [Act.put, List.setIfInBounds_toArray, List.set_cons_zero, List.set_cons_succ]
                    refine wpAnyH_ready (rs := [4]) (by as_aux_lemma => kernel_rfl) (by simp) ?_
                    refine AllReadyH.cons (o := { dst := some 70, op := Op.call { callee := Callee.value (Operand.func 23), args := #[Operand.tmp 69], argTypes := #[3] }, type := 9, pos := "answer.go:84", after := #[{ on := 3, ground := Ground.data }], guard := none }) rfl (fun K2 hK => ?_) AllReadyH.nil
                    go_simp
                    go_at_call 23
                    refine (rname_is r0 HRG.out.1 WD).mono ?_
                    rintro e7 w7 ⟨rfl, hw7⟩
                    subst hw7
                    have HW7 := HW0
                    have HQ7 := HQ0
                    have g9 : Below WD.heap.size WD (WD.alloc (Obj.cells #[.string (Bs (rn r0))] 9)) := by go_grown
                    have HW9 := Lib.hid (And.intro (HW7.out.1.below g9) (stepB HW7.out.2 g9 (Nat.le_of_lt HW7.out.1.1.lt)))
                    have HQ9 := Lib.hid (HQ7.out.below g9)
                    have HRD := Lib.hid (reads_newN WD 1 1 [.string (Bs (rn r0))] 9 rfl)
                    have N3 := Lib.hid (show WB + 1 ≤ (WD.alloc (Obj.cells #[.string (Bs (rn r0))] 9)).heap.size from by have := HW9.out.1.1.lt; omega)
                    clear g9
                    refine hK.out _ _ (HQ7.out) (fun _ => ?_)
                    clear hK K2
                    try simp only [Act.put, List.setIfInBounds_toArray, List.set_cons_zero, List.set_cons_succ]
                    refine wpAnyH_ready (rs := [5]) (by as_aux_lemma => kernel_rfl) (by simp) ?_
                    refine AllReadyH.cons (o := { dst := some 71, op := Op.buildSlice 55 1 #[(0, Operand.tmp 70)], type := 55, pos := "answer.go:84", after := #[{ on := 4, ground := Ground.data }], guard := none }) rfl (fun K2 hK => ?_) AllReadyH.nil
                    go_simp
                    refine hK.out _ _ (HQ9.out) (fun _ => ?_)
                    clear hK K2
                    try simp only [Act.put, List.setIfInBounds_toArray, List.set_cons_zero, List.set_cons_succ]
                    refine wpAnyH_ready (rs := [6]) (by as_aux_lemma => kernel_rfl) (by simp) ?_
                    refine AllReadyH.cons (o := { dst := some 72, op := Op.call { callee := Callee.builtin Builtin.append, args := #[Operand.tmp 66, Operand.tmp 71], argTypes := #[55, 55] }, type := 55, pos := "answer.go:84", after := #[{ on := 0, ground := Ground.data }, { on := 5, ground := Ground.data }, { on := 4, ground := Ground.chain }], guard := none }) rfl (fun K2 hK => ?_) AllReadyH.nil
                    refine wp_append_any _ (.tmp 66) (.tmp 71) 55 rfl (WB + 1) 9 i0s (.string ⟨#[]⟩) 1 16 Tryz.underlying55 HII.out HZ0.out HZ1.out HZ2.out rfl (by decide) _ _ _ rfl HW9.out.1.2 _ _ 1 1 [.string (Bs (rn r0))] rfl HRD.out (by intro u hu; simp only [List.mem_cons, List.not_mem_nil, or_false] at hu; subst hu; rfl) N1.out N2.out N3.out (fun v3 w8 hown3 hgrow3 hblk3 => ?_)
                    obtain ⟨A8, c8, hv8⟩ := oshape hown3
                    subst hv8
                    have HPP := Lib.hid (And.intro hown3 (And.intro hgrow3 hblk3))
                    have HB8 := Lib.hid (bl_grown HW9.out.1.1 hgrow3 (fun b e => by have := (HW9.out.1.own_ne b e).1; omega))
                    have HQ8 := Lib.hid (bl_grown HQ9.out hgrow3 (fun b e => by have h1 := (HW9.out.1.own_ne b e).1; have h2 := HRW.out; omega))
                    clear hown3 hgrow3 hblk3
                    refine hK.out _ _ (HQ8.out) (fun _ => ?_)
                    clear hK K2
                    try simp only [Act.put, List.setIfInBounds_toArray, List.set_cons_zero, List.set_cons_succ]
                    refine wpAnyH_ready (rs := [7]) (by as_aux_lemma => kernel_rfl) (by simp) ?_
                    refine AllReadyH.cons (o := { dst := none, op := Op.store 55 (Operand.tmp 4) (Operand.tmp 72), type := 0, pos := "answer.go:84", after := #[{ on := 6, ground := Ground.data }, { on := 6, ground := Ground.chain }, { on := 0, ground := Ground.phase }, { on := 1, ground := Ground.phase }, { on := 2, ground := Ground.phase }, { on := 3, ground := Ground.phase }, { on := 4, ground := Ground.phase }, { on := 5, ground := Ground.phase }, { on := 6, ground := Ground.phase }], guard := none }) rfl (fun K2 hK => ?_) AllReadyH.nil
                    have xb := HB8.out.cell 0 _ rfl
                    have xf := HB8.out.frz 0
                    go_simp
                    clear xb xf
                    refine hK.out _ _ (Bl.far HQ8.out (p := ⟨WB, 0, none⟩) (fun e => by have h2 := HRW.out; have : WB = RB := e; omega) _) (fun _ => ?_)
                    clear hK K2
                    try simp only [Act.put, List.setIfInBounds_toArray, List.set_cons_zero, List.set_cons_succ]
                    refine wpAnyH_done (by as_aux_lemma => kernel_rfl) ?_ _
                    go_wp2_with fail
                    go_meet
                    case rel => exact Lib.hid (told_at HW9.out.1 HW9.out.2 HQ2.out HRW.out (by simpa using HPP.out.1) HPP.out.2.1 HPP.out.2.2)
                  · go_simp
                    go_at_call 23
                    refine (rname_is r0 HRG.out.1 WD).mono ?_
                    rintro e7 w7 ⟨rfl, hw7⟩
                    subst hw7
                    have HW7 := HW0
                    have HQ7 := HQ0
                    have g9 : Below WD.heap.size WD (WD.alloc (Obj.cells #[.string (Bs (rn r0))] 9)) := by go_grown
                    have HW9 := Lib.hid (And.intro (HW7.out.1.below g9) (stepB HW7.out.2 g9 (Nat.le_of_lt HW7.out.1.1.lt)))
                    have HQ9 := Lib.hid (HQ7.out.below g9)
                    have HRD := Lib.hid (reads_newN WD 1 1 [.string (Bs (rn r0))] 9 rfl)
                    have N3 := Lib.hid (show WB + 1 ≤ (WD.alloc (Obj.cells #[.string (Bs (rn r0))] 9)).heap.size from by have := HW9.out.1.1.lt; omega)
                    clear g9
                    refine hK.out _ _ (HQ7.out) (fun _ => ?_)
                    clear hK K2
                    try simp only [Act.put, List.setIfInBounds_toArray, List.set_cons_zero, List.set_cons_succ]
                    refine wpAnyH_ready (rs := [0, 5]) (by as_aux_lemma => kernel_rfl) (by simp) ?_
                    refine AllReadyH.cons (o := { dst := some 66, op := Op.load 55 (Operand.tmp 4), type := 55, pos := "answer.go:84", after := #[], guard := none }) rfl (fun K2 hK => ?_) (AllReadyH.cons (o := { dst := some 71, op := Op.buildSlice 55 1 #[(0, Operand.tmp 70)], type := 55, pos := "answer.go:84", after := #[{ on := 4, ground := Ground.data }], guard := none }) rfl (fun K2 hK => ?_) AllReadyH.nil)
                    · have xl := HW7.out.1.1.cell 0 _ rfl
                      go_simp
                      clear xl
                      refine hK.out _ _ (HQ7.out) (fun _ => ?_)
                      clear hK K2
                      try simp only [Act.put, List.setIfInBounds_toArray, List.set_cons_zero, List.set_cons_succ]
                      refine wpAnyH_ready (rs := [5]) (by as_aux_lemma => kernel_rfl) (by simp) ?_
                      refine AllReadyH.cons (o := { dst := some 71, op := Op.buildSlice 55 1 #[(0, Operand.tmp 70)], type := 55, pos := "answer.go:84", after := #[{ on := 4, ground := Ground.data }], guard := none }) rfl (fun K2 hK => ?_) AllReadyH.nil
                      go_simp
                      refine hK.out _ _ (HQ9.out) (fun _ => ?_)
                      clear hK K2
                      try simp only [Act.put, List.setIfInBounds_toArray, List.set_cons_zero, List.set_cons_succ]
                      refine wpAnyH_ready (rs := [6]) (by as_aux_lemma => kernel_rfl) (by simp) ?_
                      refine AllReadyH.cons (o := { dst := some 72, op := Op.call { callee := Callee.builtin Builtin.append, args := #[Operand.tmp 66, Operand.tmp 71], argTypes := #[55, 55] }, type := 55, pos := "answer.go:84", after := #[{ on := 0, ground := Ground.data }, { on := 5, ground := Ground.data }, { on := 4, ground := Ground.chain }], guard := none }) rfl (fun K2 hK => ?_) AllReadyH.nil
                      refine wp_append_any _ (.tmp 66) (.tmp 71) 55 rfl (WB + 1) 9 i0s (.string ⟨#[]⟩) 1 16 Tryz.underlying55 HII.out HZ0.out HZ1.out HZ2.out rfl (by decide) _ _ _ rfl HW9.out.1.2 _ _ 1 1 [.string (Bs (rn r0))] rfl HRD.out (by intro u hu; simp only [List.mem_cons, List.not_mem_nil, or_false] at hu; subst hu; rfl) N1.out N2.out N3.out (fun v3 w8 hown3 hgrow3 hblk3 => ?_)
                      obtain ⟨A8, c8, hv8⟩ := oshape hown3
                      subst hv8
                      have HPP := Lib.hid (And.intro hown3 (And.intro hgrow3 hblk3))
                      have HB8 := Lib.hid (bl_grown HW9.out.1.1 hgrow3 (fun b e => by have := (HW9.out.1.own_ne b e).1; omega))
                      have HQ8 := Lib.hid (bl_grown HQ9.out hgrow3 (fun b e => by have h1 := (HW9.out.1.own_ne b e).1; have h2 := HRW.out; omega))
                      clear hown3 hgrow3 hblk3
                      refine hK.out _ _ (HQ8.out) (fun _ => ?_)
                      clear hK K2
                      try simp only [Act.put, List.setIfInBounds_toArray, List.set_cons_zero, List.set_cons_succ]
                      refine wpAnyH_ready (rs := [7]) (by as_aux_lemma => kernel_rfl) (by simp) ?_
                      refine AllReadyH.cons (o := { dst := none, op := Op.store 55 (Operand.tmp 4) (Operand.tmp 72), type := 0, pos := "answer.go:84", after := #[{ on := 6, ground := Ground.data }, { on := 6, ground := Ground.chain }, { on := 0, ground := Ground.phase }, { on := 1, ground := Ground.phase }, { on := 2, ground := Ground.phase }, { on := 3, ground := Ground.phase }, { on := 4, ground := Ground.phase }, { on := 5, ground := Ground.phase }, { on := 6, ground := Ground.phase }], guard := none }) rfl (fun K2 hK => ?_) AllReadyH.nil
                      have xb := HB8.out.cell 0 _ rfl
                      have xf := HB8.out.frz 0
                      go_simp
                      clear xb xf
                      refine hK.out _ _ (Bl.far HQ8.out (p := ⟨WB, 0, none⟩) (fun e => by have h2 := HRW.out; have : WB = RB := e; omega) _) (fun _ => ?_)
                      clear hK K2
                      try simp only [Act.put, List.setIfInBounds_toArray, List.set_cons_zero, List.set_cons_succ]
                      refine wpAnyH_done (by as_aux_lemma => kernel_rfl) ?_ _
                      go_wp2_with fail
                      go_meet
                      case rel => exact Lib.hid (told_at HW9.out.1 HW9.out.2 HQ2.out HRW.out (by simpa using HPP.out.1) HPP.out.2.1 HPP.out.2.2)
                    · go_simp
                      refine hK.out _ _ (HQ9.out) (fun _ => ?_)
                      clear hK K2
                      try simp only [Act.put, List.setIfInBounds_toArray, List.set_cons_zero, List.set_cons_succ]
                      refine wpAnyH_ready (rs := [0]) (by as_aux_lemma => kernel_rfl) (by simp) ?_
                      refine AllReadyH.cons (o := { dst := some 66, op := Op.load 55 (Operand.tmp 4), type := 55, pos := "answer.go:84", after := #[], guard := none }) rfl (fun K2 hK => ?_) AllReadyH.nil
                      have xl := HW9.out.1.1.cell 0 _ rfl
                      go_simp
                      clear xl
                      refine hK.out _ _ (HQ9.out) (fun _ => ?_)
                      clear hK K2
                      try simp only [Act.put, List.setIfInBounds_toArray, List.set_cons_zero, List.set_cons_succ]
                      refine wpAnyH_ready (rs := [6]) (by as_aux_lemma => kernel_rfl) (by simp) ?_
                      refine AllReadyH.cons (o := { dst := some 72, op := Op.call { callee := Callee.builtin Builtin.append, args := #[Operand.tmp 66, Operand.tmp 71], argTypes := #[55, 55] }, type := 55, pos := "answer.go:84", after := #[{ on := 0, ground := Ground.data }, { on := 5, ground := Ground.data }, { on := 4, ground := Ground.chain }], guard := none }) rfl (fun K2 hK => ?_) AllReadyH.nil
                      refine wp_append_any _ (.tmp 66) (.tmp 71) 55 rfl (WB + 1) 9 i0s (.string ⟨#[]⟩) 1 16 Tryz.underlying55 HII.out HZ0.out HZ1.out HZ2.out rfl (by decide) _ _ _ rfl HW9.out.1.2 _ _ 1 1 [.string (Bs (rn r0))] rfl HRD.out (by intro u hu; simp only [List.mem_cons, List.not_mem_nil, or_false] at hu; subst hu; rfl) N1.out N2.out N3.out (fun v3 w8 hown3 hgrow3 hblk3 => ?_)
                      obtain ⟨A8, c8, hv8⟩ := oshape hown3
                      subst hv8
                      have HPP := Lib.hid (And.intro hown3 (And.intro hgrow3 hblk3))
                      have HB8 := Lib.hid (bl_grown HW9.out.1.1 hgrow3 (fun b e => by have := (HW9.out.1.own_ne b e).1; omega))
                      have HQ8 := Lib.hid (bl_grown HQ9.out hgrow3 (fun b e => by have h1 := (HW9.out.1.own_ne b e).1; have h2 := HRW.out; omega))
                      clear hown3 hgrow3 hblk3
                      refine hK.out _ _ (HQ8.out) (fun _ => ?_)
                      clear hK K2
                      try simp only [Act.put, List.setIfInBounds_toArray, List.set_cons_zero, List.set_cons_succ]
                      refine wpAnyH_ready (rs := [7]) (by as_aux_lemma => kernel_rfl) (by simp) ?_
                      refine AllReadyH.cons (o := { dst := none, op := Op.store 55 (Operand.tmp 4) (Operand.tmp 72), type := 0, pos := "answer.go:84", after := #[{ on := 6, ground := Ground.data }, { on := 6, ground := Ground.chain }, { on := 0, ground := Ground.phase }, { on := 1, ground := Ground.phase }, { on := 2, ground := Ground.phase }, { on := 3, ground := Ground.phase }, { on := 4, ground := Ground.phase }, { on := 5, ground := Ground.phase }, { on := 6, ground := Ground.phase }], guard := none }) rfl (fun K2 hK => ?_) AllReadyH.nil
                      have xb := HB8.out.cell 0 _ rfl
                      have xf := HB8.out.frz 0
                      go_simp
                      clear xb xf
                      refine hK.out _ _ (Bl.far HQ8.out (p := ⟨WB, 0, none⟩) (fun e => by have h2 := HRW.out; have : WB = RB := e; omega) _) (fun _ => ?_)
                      clear hK K2
                      try simp only [Act.put, List.setIfInBounds_toArray, List.set_cons_zero, List.set_cons_succ]
                      refine wpAnyH_done (by as_aux_lemma => kernel_rfl) ?_ _
                      go_wp2_with fail
                      go_meet
                      case rel => exact Lib.hid (told_at HW9.out.1 HW9.out.2 HQ2.out HRW.out (by simpa using HPP.out.1) HPP.out.2.1 HPP.out.2.2)
                case rest =>
                  have HA7 := Lib.hid hcut.out
                  clear hcut y0 y1 y5 HC
                  have hq := HQ2.out.keep HA7.out.bel HRW.out
                  have y6 := hq.cell 6 _ rfl
                  have y7 := hq.cell 7 _ rfl
                  have y8 := hq.cell 8 _ rfl
                  have y9 := hq.cell 9 _ rfl
                  clear hq
                  by_cases hz : r0 = 0
                  · subst hz
                    go_wp2_with fail
                    go_meet
                    case rel =>
                      rw [HAW.out, HTL.out]
                      exact Lib.hid (by simpa using HA7.out)
                  · have e0 : (r0 == 0) = false := beq_eq_false_iff_ne.2 hz
                    have HTL2 := Lib.hid (HTL.out.trans (if_pos hz))
                    clear hz
                    go_wp2_with fail
                    refine (put_3 WB w2 _ _ r1 r2 r3 HA7.out (by have := HXL.out; simp; omega) HRG.out.2.1 HRG.out.2.2.1 HRG.out.2.2.2 H1.out HT2.out).mono ?_
                    rintro e5 w5 ⟨rfl, hA5⟩
                    have HA5 := Lib.hid hA5
                    clear hA5 y6 y7 y8 y9
                    go_wp2_with fail
                    go_meet
                    case rel =>
                      rw [HAW.out, HTL2.out]
                      exact Lib.hid (by simpa using HA5.out)
              · have e3 : (k == 3) = false := beq_eq_false_iff_ne.2 h3
                have e4 : (k == 4) = false := beq_eq_false_iff_ne.2 h4
                have HTL : Hid (tl_ ⟨k, 0, t, i, c, false, r0, r1, r2, r3, r4, r5, L⟩ = [wOk]) := Lib.hid (by unfold tl_; simp [h3, h4])
                clear h3 h4
                obtain ⟨A6, c6, hW6, hB6⟩ := HC.out
                have xl := hW6.1.cell 0 _ rfl
                have g9 : Below wc.heap.size wc (wc.alloc (Obj.cells #[.string (Bs wOk)] 9)) := by go_grown
                have HW9 := Lib.hid (And.intro (hW6.below g9) (stepB hB6 g9 (Nat.le_of_lt hW6.1.lt)))
                have HRD := Lib.hid (reads_newN wc 1 1 [.string (Bs wOk)] 9 rfl)
                have N3 := Lib.hid (show WB + 1 ≤ (wc.alloc (Obj.cells #[.string (Bs wOk)] 9)).heap.size from by have := HW9.out.1.1.lt; omega)
                clear g9 hW6 hB6
                go_wp2_with (at_builtin; refine wpList_append_any _ rfl (.tmp 41) (.tmp 42) 55 rfl (WB + 1) 9 i0s (.string ⟨#[]⟩) 1 16 Tryz.underlying55 HII.out HZ0.out HZ1.out HZ2.out rfl (by decide) _ XS.length (XS.map fun l => .string (Bs l)) rfl HW9.out.1.2 _ _ 1 1 [.string (Bs wOk)] rfl HRD.out (by intro u hu; simp only [List.mem_cons, List.not_mem_nil, or_false] at hu; subst hu; rfl) N1.out N2.out N3.out ?_; intro v3 w8 hown3 hgrow3 hblk3; obtain ⟨A8, c8, hv8⟩ := oshape hown3; subst hv8; have HPP := Lib.hid (And.intro hown3 (And.intro hgrow3 hblk3)); have HB8 := Lib.hid (bl_grown HW9.out.1.1 hgrow3 (fun b e => by have := (HW9.out.1.own_ne b e).1; omega)); clear hown3 hgrow3 hblk3; have xb := HB8.out.cell 0 _ rfl; have xf := HB8.out.frz 0)
                go_wp2_with fail
                go_meet
                case rel =>
                  rw [HAW.out, HTL.out]
                  exact Lib.hid (told_at HW9.out.1 HW9.out.2 HQ2.out HRW.out (by simpa using HPP.out.1) HPP.out.2.1 HPP.out.2.2)
        · have e0 : (cd == 0) = false := beq_eq_false_iff_ne.2 hcd
          have HTL : Hid (tl_ ⟨k, cd, t, i, c, ask, r0, r1, r2, r3, r4, r5, L⟩ = [wErr] ++ [dcl cd.toNat]) := Lib.hid (by unfold tl_; simp [hcd])
          clear hcd
          obtain ⟨A6, c6, hW6, hB6⟩ := HC.out
          have xl := hW6.1.cell 0 _ rfl
          have g9 : Below wc.heap.size wc (wc.alloc (Obj.cells #[.string (Bs wErr)] 9)) := by go_grown
          have HW9 := Lib.hid (And.intro (hW6.below g9) (stepB hB6 g9 (Nat.le_of_lt hW6.1.lt)))
          have HRD := Lib.hid (reads_newN wc 1 1 [.string (Bs wErr)] 9 rfl)
          have N3 := Lib.hid (show WB + 1 ≤ (wc.alloc (Obj.cells #[.string (Bs wErr)] 9)).heap.size from by have := HW9.out.1.1.lt; omega)
          clear g9 hW6 hB6
          go_upto_region 16 with (at_builtin; refine wpList_append_any _ rfl (.tmp 48) (.tmp 49) 55 rfl (WB + 1) 9 i0s (.string ⟨#[]⟩) 1 16 Tryz.underlying55 HII.out HZ0.out HZ1.out HZ2.out rfl (by decide) _ XS.length (XS.map fun l => .string (Bs l)) rfl HW9.out.1.2 _ _ 1 1 [.string (Bs wErr)] rfl HRD.out (by intro u hu; simp only [List.mem_cons, List.not_mem_nil, or_false] at hu; subst hu; rfl) N1.out N2.out N3.out ?_; intro v3 w8 hown3 hgrow3 hblk3; obtain ⟨A8, c8, hv8⟩ := oshape hown3; subst hv8; have HPP := Lib.hid (And.intro hown3 (And.intro hgrow3 hblk3)); have HB8 := Lib.hid (bl_grown HW9.out.1.1 hgrow3 (fun b e => by have := (HW9.out.1.own_ne b e).1; omega)); clear hown3 hgrow3 hblk3; have xb := HB8.out.cell 0 _ rfl; have xf := HB8.out.frz 0)
          have hA7 : At WB w2 (XS ++ [wErr]) (w8.setCell ⟨WB, 0, none⟩ (.slice A8 (XS.length + 1) c8)) := told_at HW9.out.1 HW9.out.2 HQ2.out HRW.out (by simpa using HPP.out.1) HPP.out.2.1 HPP.out.2.2
          generalize w8.setCell ⟨WB, 0, none⟩ (.slice A8 (XS.length + 1) c8) = w7 at hA7 ⊢
          have HA7 := Lib.hid hA7
          clear hA7 y0 y1 y5 xl xb xf HPP HB8 HW9 HRD N3
          have y1 := (HQ2.out.keep HA7.out.bel HRW.out).cell 1 _ rfl
          go_wp2_with fail
          refine (put_1 WB w2 w7 _ cd HA7.out (by have := HXL.out; simp; omega) ⟨HRT.out.cd, HCD.out⟩ H1.out HT2.out).mono ?_
          rintro e5 w5 ⟨rfl, hA5⟩
          have HA5 := Lib.hid hA5
          clear hA5 y1
          go_wp2_with fail
          go_meet
          case rel =>
            rw [HAW.out, HTL.out, ← List.append_assoc]
            exact Lib.hid HA5.out
      case rest =>
        clear hq
        have HCJ := Lib.hid hcut.out
        have HAL := Lib.hid (aw_len ⟨k, cd, t, i, c, ask, r0, r1, r2, r3, r4, r5, L⟩ HRT.out HLL.out HCD.out)
        clear hcut HC HAW HXL N1 N2
        obtain ⟨AW, hAW⟩ : ∃ AW, AW = aw ⟨k, cd, t, i, c, ask, r0, r1, r2, r3, r4, r5, L⟩ := ⟨_, rfl⟩
        rw [← hAW] at HCJ HAL
        have HAE := Lib.hid hAW
        clear hAW
        obtain ⟨A6, c6, hW6, hB6⟩ := HCJ.out
        have xl := hW6.1.cell 0 _ rfl
        have hown := hW6.2
        obtain ⟨g6, cap6, hv6, hb6, hlt6⟩ := hown.form HAL.out.1
        have hcap : AW.length ≤ cap6 := by
          rcases hown.2 with ⟨_, h0⟩ | ⟨g7, cap7, cur7, hv7, _, _, hc7, _⟩
          · have h1 := HAL.out.1
            omega
          · rw [hv6] at hv7
            injection hv7 with _ _ h9
            rw [h9]; exact hc7
        injection hv6 with hv7 _ hv8
        subst hv7
        subst hv8
        have hcl := hown.cells (g := g6) rfl
        have hxs : ((AW.map Bs).map (fun s => s.data.toList)) = AW := by
          rw [List.map_map]
          have : ((fun s : ByteArray => s.data.toList) ∘ Bs) = id := by funext x; exact Bs_list x
          rw [this, List.map_id]
        have hj := (Any.strings_Join lays156 builderExtra g6 0 c6 (AW.map Bs) ⟨#[32]⟩ wc (fun j x hx => by
          rw [List.getElem?_map] at hx
          obtain ⟨l, hl, rfl⟩ := Option.map_eq_some_iff.1 hx
          have := hcl j (.string (Bs l)) (by rw [List.getElem?_map, hl]; rfl)
          rw [← this]
          by_cases hj : j = 0
          · subst hj; rfl
          · rw [addp _ j hj rfl]) hlt6 (by rw [List.length_map]; have := HAL.out.2.1; omega) (by rw [List.length_map]; exact hcap) (by rw [hxs]; show (Lib.join AW [32]).length ≤ _; exact HAL.out.2.2))
        rw [List.length_map, hxs, show (⟨#[32]⟩ : ByteArray).data.toList = [32] from rfl, show Lib.join AW [32] = jl AW from rfl, show (ByteArray.mk (jl AW).toArray) = Bs (jl AW) from rfl] at hj
        have HJ := Lib.hid hj
        have HBW : Hid (Below w.heap.size w wc) := Lib.hid (HE2.out.trans (hB6.mono (by have h1 := HRW.out; have h2 := HRE.out; omega)))
        clear hown hcl hxs hcap hb6 hlt6 hj hW6 hB6
        go_wp2_with fail
        refine HJ.out.mono ?_
        rintro e8 w8 ⟨rfl, hb8⟩
        have HB8 := Lib.hid (Below.step HBW.out hb8)
        clear hb8
        go_wp2_with fail
        go_ret2
        rw [← HAE.out]
        exact ⟨rfl, HB8.out⟩

end Go.Proofs.YtinciphhoieonaaGreatDoor

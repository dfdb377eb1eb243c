/-
  How much an order reaches, as the document has it.
-/
import Derived.Test.YtafignfoejefjaaRows
import Derived.Test.YtafignfoejefjaaKit
import Derived.Test.YtafignfoejefjaaApp
import Derived.Test.YtafignfoejefjaaQuiet
import Derived.WalkKit
import Derived.ProofKit
import Derived.OpenShut
import Derived.ShutString
import Derived.Below
import Derived.Outline
import Derived.WalkLawsBesides
import Derived.WalkSpells
import Derived.Handy
import Derived.Deep.QuietTactic
import Derived.BigQuiet
import Derived.RegionTactic
import Derived.ChangeAlike
import Derived.Lib.Hide
import Derived.Laws.Rows
import Derived.Laws.Tables
import Derived.Laws.CopyOwn
import Derived.Laws.MakeOwn
import Derived.Laws.Entries
import Derived.Laws.OwnMore
import Derived.Deep.WholeRow
import Derived.Deep.LoopGhost
import Derived.Deep.AppendLies
import Derived.Deep.Draws
import Derived.Maps.AppendAt
import Derived.OwnWalk
import Derived.Deep.RegionHeld3
import Derived.Deep.Cut
import Derived.Deep.CutRange
import Derived.Deep.DeepCutAuto
import Derived.Deep.CutBlock
import Derived.Lib.SliceRun
import Derived.IntWalk
import Derived.Test.YtafignfoejefjaaBkM
import Derived.Test.YtafignfoejefjaaBkO
import Derived.Test.YtafignfoejefjaaBkP
import Derived.Test.YtafignfoejefjaaBkQ
import Derived.Test.YtafignfoejefjaaBkL
import Derived.Test.YtafignfoejefjaaBkU
namespace Go.Proofs.Ytafignfoejefjaa
open Go.ChangeShapes Go.WideShapes Go.ChangeAt Go.RowKit
set_option maxRecDepth 100000 in
set_option maxHeartbeats 8000000 in
theorem refReach_is (p c n b r f g : Int) (A : Option Addr) (ln cp : Nat) (gv : Nat → Ord) (o : Ord) (w : World) (hE : OrdsAt A ln gv w) (hl : ln ≤ 40) (hF : Fine (lst ln gv)) (ho : 1 ≤ o.p ∧ o.p ≤ 9999) (hp : 1 ≤ p ∧ p ≤ 6) (hc : 1 ≤ c ∧ c ≤ 4) : Calls Try.prog 17 #[.agg #[.int .i64 p, .int .i64 c, .int .i64 n, .int .i64 b, .int .i64 r, .int .i64 f, .int .i64 g], .slice A ln cp, .agg (List.toArray [.int .i64 o.c, .int .i64 o.n, .int .i64 o.s, .int .i64 o.p, .int .i64 o.l, .int .i64 o.u, .int .i64 o.q])] w fun e w' => e = .returned (.int .i64 (rch p c o (lst ln gv))) ∧ Below w.heap.size w w' := by
  have HE := Lib.hid hE
  have HL := Lib.hid hl
  have HF := Lib.hid hF
  have HOW := Lib.hid (fun (x : Int) W => owner20_is p c n b r f g x W hp hc)
  have HMQ := Lib.hid (fun (x : Ord) (hx : 1 ≤ x.p ∧ x.p ≤ 9999) => mq_is o x ho hx)
  clear hE hl hF hp hc ho
  go_enter Try.func17, Try.ntmps17
  go_wp2_with fail
  have b0 := (Bl.new w [.int .i64 p, .int .i64 c, .int .i64 n, .int .i64 b, .int .i64 r, .int .i64 f, .int .i64 g] 23).below (w' := (w.alloc (.cells (List.toArray [.int .i64 p, .int .i64 c, .int .i64 n, .int .i64 b, .int .i64 r, .int .i64 f, .int .i64 g]) 23)).alloc (.cells (List.toArray [.int .i64 o.c, .int .i64 o.n, .int .i64 o.s, .int .i64 o.p, .int .i64 o.l, .int .i64 o.u, .int .i64 o.q]) 50)) (by go_grown)
  have b1 := Bl.new (w.alloc (.cells (List.toArray [.int .i64 p, .int .i64 c, .int .i64 n, .int .i64 b, .int .i64 r, .int .i64 f, .int .i64 g]) 23)) [.int .i64 o.c, .int .i64 o.n, .int .i64 o.s, .int .i64 o.p, .int .i64 o.l, .int .i64 o.u, .int .i64 o.q] 50
  have g0 : Below w.heap.size w ((w.alloc (.cells (List.toArray [.int .i64 p, .int .i64 c, .int .i64 n, .int .i64 b, .int .i64 r, .int .i64 f, .int .i64 g]) 23)).alloc (.cells (List.toArray [.int .i64 o.c, .int .i64 o.n, .int .i64 o.s, .int .i64 o.p, .int .i64 o.l, .int .i64 o.u, .int .i64 o.q]) 50)) := by go_grown
  rw [World.size_alloc] at b1
  obtain ⟨W, hW⟩ : ∃ W, W = (w.alloc (.cells (List.toArray [.int .i64 p, .int .i64 c, .int .i64 n, .int .i64 b, .int .i64 r, .int .i64 f, .int .i64 g]) 23)).alloc (.cells (List.toArray [.int .i64 o.c, .int .i64 o.n, .int .i64 o.s, .int .i64 o.p, .int .i64 o.l, .int .i64 o.u, .int .i64 o.q]) 50) := ⟨_, rfl⟩
  rw [← hW] at b0 b1 g0 ⊢
  have HM0 : Hid (Bl w.heap.size [.int .i64 p, .int .i64 c, .int .i64 n, .int .i64 b, .int .i64 r, .int .i64 f, .int .i64 g] W ∧ Bl (w.heap.size + 1) [.int .i64 o.c, .int .i64 o.n, .int .i64 o.s, .int .i64 o.p, .int .i64 o.l, .int .i64 o.u, .int .i64 o.q] W ∧ Below w.heap.size w W) := Lib.hid ⟨b0, b1, g0⟩
  clear b0 b1 g0 hW
  go_loopw [7, 8] (fun t j wr => ∃ k : Nat, k ≤ ln ∧ j = .int .i64 (k : Int) ∧ t = .int .i64 (rsum p c o (lst k gv)) ∧ Hid (Bl w.heap.size [.int .i64 p, .int .i64 c, .int .i64 n, .int .i64 b, .int .i64 r, .int .i64 f, .int .i64 g] wr ∧ Bl (w.heap.size + 1) [.int .i64 o.c, .int .i64 o.n, .int .i64 o.s, .int .i64 o.p, .int .i64 o.l, .int .i64 o.u, .int .i64 o.q] wr ∧ Below w.heap.size w wr)) (fun _ j _ => ln + 1 - (intOf j).toNat)
  case atStart => exact ⟨0, Nat.zero_le _, rfl, rfl, HM0⟩
  case round =>
    clear HM0
    obtain ⟨k, hk, rfl, rfl, HR⟩ := hrel
    have k0 : (0 : Int) ≤ (k : Int) := by omega
    have sb := rsum_bd p c o (lst k gv) (by rw [← lst_take ln gv k hk]; exact HF.out.take k)
    rw [lst_len] at sb
    have s1 : 0 ≤ rsum p c o (lst k gv) := sb.1
    have s2 : rsum p c o (lst k gv) ≤ 400000 := by have := sb.2; have := HL.out; omega
    clear sb
    by_cases hlt : k < ln
    · obtain ⟨ad, rfl, hab, hcs⟩ := HE.out (by omega)
      have hcy := hcs k hlt
      clear hcs
      have habw : (ad.add (k * 7)).block < w.heap.size := by rw [block_of_add]; exact hab
      have q1 : (k : Int) < (ln : Int) := by omega
      have q2 : (ln : Int) ≤ 40 := by have := HL.out; omega
      obtain ⟨x, hx⟩ : ∃ x, x = gv k := ⟨_, rfl⟩
      rw [← hx] at hcy
      have d0 : w.cell? (ad.add (k * 7)) = some (.int .i64 x.c) := hcy 0 _ rfl
      have d1 : w.cell? ⟨(ad.add (k * 7)).block, (ad.add (k * 7)).off + 1, none⟩ = some (.int .i64 x.n) := by rw [← addp _ 1 (by decide) (World.cell?_spot d0), add_of_add]; exact hcy 1 _ rfl
      have d2 : w.cell? ⟨(ad.add (k * 7)).block, (ad.add (k * 7)).off + 2, none⟩ = some (.int .i64 x.s) := by rw [← addp _ 2 (by decide) (World.cell?_spot d0), add_of_add]; exact hcy 2 _ rfl
      have d3 : w.cell? ⟨(ad.add (k * 7)).block, (ad.add (k * 7)).off + 3, none⟩ = some (.int .i64 x.p) := by rw [← addp _ 3 (by decide) (World.cell?_spot d0), add_of_add]; exact hcy 3 _ rfl
      have d4 : w.cell? ⟨(ad.add (k * 7)).block, (ad.add (k * 7)).off + 4, none⟩ = some (.int .i64 x.l) := by rw [← addp _ 4 (by decide) (World.cell?_spot d0), add_of_add]; exact hcy 4 _ rfl
      have d5 : w.cell? ⟨(ad.add (k * 7)).block, (ad.add (k * 7)).off + 5, none⟩ = some (.int .i64 x.u) := by rw [← addp _ 5 (by decide) (World.cell?_spot d0), add_of_add]; exact hcy 5 _ rfl
      have d6 : w.cell? ⟨(ad.add (k * 7)).block, (ad.add (k * 7)).off + 6, none⟩ = some (.int .i64 x.q) := by rw [← addp _ 6 (by decide) (World.cell?_spot d0), add_of_add]; exact hcy 6 _ rfl
      have HD := Lib.hid (And.intro d0 (And.intro d1 (And.intro d2 (And.intro d3 (And.intro d4 (And.intro d5 d6))))))
      have HAB := Lib.hid habw
      have hfx := HF.out x (List.mem_of_getElem? (by rw [hx]; exact lst_get ln gv k hlt))
      have hsucc : rsum p c o (lst (k + 1) gv) = rsum p c o (lst k gv) + (if ow p c x.c = ow p c o.c then 0 else mq o x) := by rw [lst_succ, rsum_app, ← hx]; simp [rsum]
      have HSC := Lib.hid hsucc
      obtain ⟨PX, _, hm1⟩ := HMQ.out x ⟨hfx.1, hfx.2.1⟩
      have hqb := mq_bd o x hfx.2.2.2
      have v1 : 0 ≤ mq o x := hqb.1
      have v2 : mq o x ≤ 9999 := hqb.2
      have HM1 := Lib.hid hm1
      have Hk := Lib.hid hlt
      clear hsucc hfx hm1 hqb hlt hk hx HMQ d0 d1 d2 d3 d4 d5 d6 hcy hab habw
      generalize rsum p c o (lst k gv) = S at *
      generalize mq o x = Q at *
      have hd : Bl w.heap.size [.int .i64 p, .int .i64 c, .int .i64 n, .int .i64 b, .int .i64 r, .int .i64 f, .int .i64 g] wr.drew ∧ Bl (w.heap.size + 1) [.int .i64 o.c, .int .i64 o.n, .int .i64 o.s, .int .i64 o.p, .int .i64 o.l, .int .i64 o.u, .int .i64 o.q] wr.drew ∧ Below w.heap.size w wr.drew := ⟨HR.out.1, HR.out.2.1, HR.out.2.2.drew⟩
      clear HR
      go_wp2_with fail
      refine wp_region_held_drew (S := fun w' => Bl w.heap.size [.int .i64 p, .int .i64 c, .int .i64 n, .int .i64 b, .int .i64 r, .int .i64 f, .int .i64 g] w' ∧ Bl (w.heap.size + 1) [.int .i64 o.c, .int .i64 o.n, .int .i64 o.s, .int .i64 o.p, .int .i64 o.l, .int .i64 o.u, .int .i64 o.q] w' ∧ Below w.heap.size w w') (by kernel_rfl) hd (fun hHeld => ?_)
      refine wpAnyH_take (i := 0) (oi := { dst := some 17, op := Op.load 23 (Operand.tmp 3), type := 23, pos := "ref.go:69", after := #[], guard := none }) (v := ?_) rfl (by as_aux_lemma => kernel_rfl) (by as_aux_lemma => kernel_rfl) (by as_aux_lemma => kernel_rfl) (fun _ _ _ h => h) (Or.inl ⟨by rfl, ?_⟩) (by assumption) ?_
      rotate_left
      · intro wq hSw
        have h0 := hSw.1.cell 0 _ rfl; have h1 := hSw.1.cell 1 _ rfl; have h2 := hSw.1.cell 2 _ rfl; have h3 := hSw.1.cell 3 _ rfl; have h4 := hSw.1.cell 4 _ rfl; have h5 := hSw.1.cell 5 _ rfl; have h6 := hSw.1.cell 6 _ rfl
        go_simp
        try with_reducible rfl
      simp only [Act.put, List.setIfInBounds_toArray, List.set_cons_zero, List.set_cons_succ]
      refine wpAnyH_take (i := 1) (oi := { dst := some 18, op := Op.move (Operand.tmp 1), type := 24, pos := "ref.go:69", after := #[], guard := none }) (v := ?_) rfl (by as_aux_lemma => kernel_rfl) (by as_aux_lemma => kernel_rfl) (by as_aux_lemma => kernel_rfl) (fun _ _ _ h => h) (Or.inl ⟨by rfl, ?_⟩) (by assumption) ?_
      rotate_left
      · intro wq hSw
        go_simp
        try with_reducible rfl
      simp only [Act.put, List.setIfInBounds_toArray, List.set_cons_zero, List.set_cons_succ]
      refine wpAnyH_take (i := 2) (oi := { dst := some 19, op := Op.move (Operand.tmp 8), type := 3, pos := "ref.go:69", after := #[], guard := none }) (v := ?_) rfl (by as_aux_lemma => kernel_rfl) (by as_aux_lemma => kernel_rfl) (by as_aux_lemma => kernel_rfl) (fun _ _ _ h => h) (Or.inl ⟨by rfl, ?_⟩) (by assumption) ?_
      rotate_left
      · intro wq hSw
        go_simp
        try with_reducible rfl
      simp only [Act.put, List.setIfInBounds_toArray, List.set_cons_zero, List.set_cons_succ]
      refine wpAnyH_take (i := 3) (oi := { dst := some 20, op := Op.indexAddr 24 (Operand.tmp 18) (Operand.tmp 19), type := 0, pos := "ref.go:69", after := #[{ on := 1, ground := Ground.data }, { on := 2, ground := Ground.data }], guard := none }) (v := ?_) rfl (by as_aux_lemma => kernel_rfl) (by as_aux_lemma => kernel_rfl) (by as_aux_lemma => kernel_rfl) (fun _ _ _ h => h) (Or.inl ⟨by rfl, ?_⟩) (by assumption) ?_
      rotate_left
      · intro wq hSw
        go_simp
        try with_reducible rfl
      simp only [Act.put, List.setIfInBounds_toArray, List.set_cons_zero, List.set_cons_succ]
      refine wpAnyH_take (i := 4) (oi := { dst := some 21, op := Op.fieldAddr 50 (Operand.tmp 20) 0, type := 0, pos := "ref.go:69", after := #[{ on := 3, ground := Ground.data }], guard := none }) (v := ?_) rfl (by as_aux_lemma => kernel_rfl) (by as_aux_lemma => kernel_rfl) (by as_aux_lemma => kernel_rfl) (fun _ _ _ h => h) (Or.inl ⟨by rfl, ?_⟩) (by assumption) ?_
      rotate_left
      · intro wq hSw
        go_simp
        try with_reducible rfl
      simp only [Act.put, List.setIfInBounds_toArray, List.set_cons_zero, List.set_cons_succ]
      refine wpAnyH_take (i := 5) (oi := { dst := some 22, op := Op.load 3 (Operand.tmp 21), type := 3, pos := "ref.go:69", after := #[{ on := 4, ground := Ground.data }], guard := none }) (v := ?_) rfl (by as_aux_lemma => kernel_rfl) (by as_aux_lemma => kernel_rfl) (by as_aux_lemma => kernel_rfl) (fun _ _ _ h => h) (Or.inl ⟨by rfl, ?_⟩) (by assumption) ?_
      rotate_left
      · intro wq hSw
        have e0 := (hSw.2.2.cell (p := (ad.add (k * 7))) HAB.out).trans HD.out.1
        go_simp
        try with_reducible rfl
      simp only [Act.put, List.setIfInBounds_toArray, List.set_cons_zero, List.set_cons_succ]
      refine wpAnyH_take (i := 7) (oi := { dst := some 24, op := Op.load 23 (Operand.tmp 3), type := 23, pos := "ref.go:69", after := #[], guard := none }) (v := ?_) rfl (by as_aux_lemma => kernel_rfl) (by as_aux_lemma => kernel_rfl) (by as_aux_lemma => kernel_rfl) (fun _ _ _ h => h) (Or.inl ⟨by rfl, ?_⟩) (by assumption) ?_
      rotate_left
      · intro wq hSw
        have h0 := hSw.1.cell 0 _ rfl; have h1 := hSw.1.cell 1 _ rfl; have h2 := hSw.1.cell 2 _ rfl; have h3 := hSw.1.cell 3 _ rfl; have h4 := hSw.1.cell 4 _ rfl; have h5 := hSw.1.cell 5 _ rfl; have h6 := hSw.1.cell 6 _ rfl
        go_simp
        try with_reducible rfl
      simp only [Act.put, List.setIfInBounds_toArray, List.set_cons_zero, List.set_cons_succ]
      refine wpAnyH_take (i := 8) (oi := { dst := some 25, op := Op.fieldAddr 50 (Operand.tmp 5) 0, type := 0, pos := "ref.go:69", after := #[], guard := none }) (v := ?_) rfl (by as_aux_lemma => kernel_rfl) (by as_aux_lemma => kernel_rfl) (by as_aux_lemma => kernel_rfl) (fun _ _ _ h => h) (Or.inl ⟨by rfl, ?_⟩) (by assumption) ?_
      rotate_left
      · intro wq hSw
        go_simp
        try with_reducible rfl
      simp only [Act.put, List.setIfInBounds_toArray, List.set_cons_zero, List.set_cons_succ]
      refine wpAnyH_take (i := 9) (oi := { dst := some 26, op := Op.load 3 (Operand.tmp 25), type := 3, pos := "ref.go:69", after := #[{ on := 8, ground := Ground.data }], guard := none }) (v := ?_) rfl (by as_aux_lemma => kernel_rfl) (by as_aux_lemma => kernel_rfl) (by as_aux_lemma => kernel_rfl) (fun _ _ _ h => h) (Or.inl ⟨by rfl, ?_⟩) (by assumption) ?_
      rotate_left
      · intro wq hSw
        have h0 := hSw.2.1.cell 0 _ rfl
        go_simp
        try with_reducible rfl
      simp only [Act.put, List.setIfInBounds_toArray, List.set_cons_zero, List.set_cons_succ]
      refine wpAnyH_ready (rs := [6]) (by as_aux_lemma => kernel_rfl) (by simp) ?_
      refine AllReadyH.cons (o := { dst := some 23, op := Op.call { callee := Callee.value (Operand.func 33), args := #[Operand.tmp 17, Operand.tmp 22], argTypes := #[23, 3] }, type := 3, pos := "ref.go:69", after := #[{ on := 0, ground := Ground.data }, { on := 5, ground := Ground.data }], guard := none }) rfl (fun K hK => ?_) AllReadyH.nil
      go_simp
      go_at_call 33
      refine (HOW.out _ _).mono ?_
      rintro ea1 wa1 ⟨rfl, hba⟩
      have hd1 : Bl w.heap.size [.int .i64 p, .int .i64 c, .int .i64 n, .int .i64 b, .int .i64 r, .int .i64 f, .int .i64 g] wa1 ∧ Bl (w.heap.size + 1) [.int .i64 o.c, .int .i64 o.n, .int .i64 o.s, .int .i64 o.p, .int .i64 o.l, .int .i64 o.u, .int .i64 o.q] wa1 ∧ Below w.heap.size w wa1 := ⟨hd.1.below hba, hd.2.1.below hba, Below.step hd.2.2 hba⟩
      refine hK.out _ _ hd1 (fun hHeld => ?_)
      clear hK K hba
      try simp only [Act.put, List.setIfInBounds_toArray, List.set_cons_zero, List.set_cons_succ]
      refine wpAnyH_ready (rs := [10]) (by as_aux_lemma => kernel_rfl) (by simp) ?_
      refine AllReadyH.cons (o := { dst := some 27, op := Op.call { callee := Callee.value (Operand.func 33), args := #[Operand.tmp 24, Operand.tmp 26], argTypes := #[23, 3] }, type := 3, pos := "ref.go:69", after := #[{ on := 7, ground := Ground.data }, { on := 9, ground := Ground.data }, { on := 6, ground := Ground.chain }], guard := none }) rfl (fun K hK => ?_) AllReadyH.nil
      go_simp
      go_at_call 33
      refine (HOW.out _ _).mono ?_
      rintro ea2 wa2 ⟨rfl, hba⟩
      have hd2 : Bl w.heap.size [.int .i64 p, .int .i64 c, .int .i64 n, .int .i64 b, .int .i64 r, .int .i64 f, .int .i64 g] wa2 ∧ Bl (w.heap.size + 1) [.int .i64 o.c, .int .i64 o.n, .int .i64 o.s, .int .i64 o.p, .int .i64 o.l, .int .i64 o.u, .int .i64 o.q] wa2 ∧ Below w.heap.size w wa2 := ⟨hd1.1.below hba, hd1.2.1.below hba, Below.step hd1.2.2 hba⟩
      refine hK.out _ _ hd2 (fun hHeld => ?_)
      clear hK K hba
      try simp only [Act.put, List.setIfInBounds_toArray, List.set_cons_zero, List.set_cons_succ]
      rcases hne : (ow p c x.c != ow p c o.c) with _ | _
      · refine wpAnyH_take (i := 11) (oi := { dst := some 28, op := Op.binOp BinOp.neq 3 (Operand.tmp 23) (Operand.tmp 27) 3, type := 4, pos := "ref.go:69", after := #[{ on := 6, ground := Ground.data }, { on := 10, ground := Ground.data }], guard := none }) (v := .bool false) rfl (by as_aux_lemma => kernel_rfl) (by as_aux_lemma => kernel_rfl) (by as_aux_lemma => kernel_rfl) (fun _ _ _ h => h) (Or.inl ⟨by rfl, ?_⟩) (by assumption) ?_
        · intro wq hSw
          go_simp
          try with_reducible rfl
        simp only [Act.put, List.setIfInBounds_toArray, List.set_cons_zero, List.set_cons_succ]
        refine wpAnyH_done (by as_aux_lemma => kernel_rfl) ?_ _
        have heq : ow p c x.c = ow p c o.c := by simpa using hne
        have HE2 := Lib.hid heq
        clear hne heq hd hd1
        have HD2 := Lib.hid hd2
        clear hd2 hHeld
        go_wp2_with fail
        go_roundw
        case rel => exact ⟨k + 1, Hk.out, by go_num, by rw [HSC.out, if_pos HE2.out]; simp, Lib.hid HD2.out⟩
        case measure => have := Hk.out; simp [intOf]; omega
      · refine wpAnyH_take (i := 11) (oi := { dst := some 28, op := Op.binOp BinOp.neq 3 (Operand.tmp 23) (Operand.tmp 27) 3, type := 4, pos := "ref.go:69", after := #[{ on := 6, ground := Ground.data }, { on := 10, ground := Ground.data }], guard := none }) (v := .bool true) rfl (by as_aux_lemma => kernel_rfl) (by as_aux_lemma => kernel_rfl) (by as_aux_lemma => kernel_rfl) (fun _ _ _ h => h) (Or.inl ⟨by rfl, ?_⟩) (by assumption) ?_
        · intro wq hSw
          go_simp
          try with_reducible rfl
        simp only [Act.put, List.setIfInBounds_toArray, List.set_cons_zero, List.set_cons_succ]
        refine wpAnyH_done (by as_aux_lemma => kernel_rfl) ?_ _
        have heq : ¬ ow p c x.c = ow p c o.c := by simpa using hne
        have HE2 := Lib.hid heq
        clear hne heq hd hd1
        clear hHeld
        go_wp2_with fail
        have hd3 : Bl w.heap.size [.int .i64 p, .int .i64 c, .int .i64 n, .int .i64 b, .int .i64 r, .int .i64 f, .int .i64 g] wa2.drew ∧ Bl (w.heap.size + 1) [.int .i64 o.c, .int .i64 o.n, .int .i64 o.s, .int .i64 o.p, .int .i64 o.l, .int .i64 o.u, .int .i64 o.q] wa2.drew ∧ Below w.heap.size w wa2.drew := ⟨hd2.1, hd2.2.1, hd2.2.2.drew⟩
        refine wp_region_held_drew (S := fun w' => Bl w.heap.size [.int .i64 p, .int .i64 c, .int .i64 n, .int .i64 b, .int .i64 r, .int .i64 f, .int .i64 g] w' ∧ Bl (w.heap.size + 1) [.int .i64 o.c, .int .i64 o.n, .int .i64 o.s, .int .i64 o.p, .int .i64 o.l, .int .i64 o.u, .int .i64 o.q] w' ∧ Below w.heap.size w w') (by kernel_rfl) hd3 (fun hHeld => ?_)
        refine wpAnyH_take (i := 0) (oi := { dst := some 30, op := Op.fieldAddr 50 (Operand.tmp 5) 1, type := 0, pos := "ref.go:70", after := #[], guard := none }) (v := ?_) rfl (by as_aux_lemma => kernel_rfl) (by as_aux_lemma => kernel_rfl) (by as_aux_lemma => kernel_rfl) (fun _ _ _ h => h) (Or.inl ⟨by rfl, ?_⟩) (by assumption) ?_
        rotate_left
        · intro wq hSw
          go_simp
          try with_reducible rfl
        simp only [Act.put, List.setIfInBounds_toArray, List.set_cons_zero, List.set_cons_succ]
        refine wpAnyH_take (i := 1) (oi := { dst := some 31, op := Op.load 48 (Operand.tmp 30), type := 48, pos := "ref.go:70", after := #[{ on := 0, ground := Ground.data }], guard := none }) (v := ?_) rfl (by as_aux_lemma => kernel_rfl) (by as_aux_lemma => kernel_rfl) (by as_aux_lemma => kernel_rfl) (fun _ _ _ h => h) (Or.inl ⟨by rfl, ?_⟩) (by assumption) ?_
        rotate_left
        · intro wq hSw
          have o0 := hSw.2.1.cell 0 _ rfl; have o1 := hSw.2.1.cell 1 _ rfl; have o2 := hSw.2.1.cell 2 _ rfl; have o3 := hSw.2.1.cell 3 _ rfl; have o4 := hSw.2.1.cell 4 _ rfl; have o5 := hSw.2.1.cell 5 _ rfl; have o6 := hSw.2.1.cell 6 _ rfl
          go_simp
          try with_reducible rfl
        simp only [Act.put, List.setIfInBounds_toArray, List.set_cons_zero, List.set_cons_succ]
        refine wpAnyH_take (i := 2) (oi := { dst := some 32, op := Op.move (Operand.tmp 1), type := 24, pos := "ref.go:70", after := #[], guard := none }) (v := ?_) rfl (by as_aux_lemma => kernel_rfl) (by as_aux_lemma => kernel_rfl) (by as_aux_lemma => kernel_rfl) (fun _ _ _ h => h) (Or.inl ⟨by rfl, ?_⟩) (by assumption) ?_
        rotate_left
        · intro wq hSw
          go_simp
          try with_reducible rfl
        simp only [Act.put, List.setIfInBounds_toArray, List.set_cons_zero, List.set_cons_succ]
        refine wpAnyH_take (i := 3) (oi := { dst := some 33, op := Op.move (Operand.tmp 8), type := 3, pos := "ref.go:70", after := #[], guard := none }) (v := ?_) rfl (by as_aux_lemma => kernel_rfl) (by as_aux_lemma => kernel_rfl) (by as_aux_lemma => kernel_rfl) (fun _ _ _ h => h) (Or.inl ⟨by rfl, ?_⟩) (by assumption) ?_
        rotate_left
        · intro wq hSw
          go_simp
          try with_reducible rfl
        simp only [Act.put, List.setIfInBounds_toArray, List.set_cons_zero, List.set_cons_succ]
        refine wpAnyH_take (i := 4) (oi := { dst := some 34, op := Op.indexAddr 24 (Operand.tmp 32) (Operand.tmp 33), type := 0, pos := "ref.go:70", after := #[{ on := 2, ground := Ground.data }, { on := 3, ground := Ground.data }], guard := none }) (v := ?_) rfl (by as_aux_lemma => kernel_rfl) (by as_aux_lemma => kernel_rfl) (by as_aux_lemma => kernel_rfl) (fun _ _ _ h => h) (Or.inl ⟨by rfl, ?_⟩) (by assumption) ?_
        rotate_left
        · intro wq hSw
          go_simp
          try with_reducible rfl
        simp only [Act.put, List.setIfInBounds_toArray, List.set_cons_zero, List.set_cons_succ]
        refine wpAnyH_take (i := 5) (oi := { dst := some 35, op := Op.fieldAddr 50 (Operand.tmp 34) 1, type := 0, pos := "ref.go:70", after := #[{ on := 4, ground := Ground.data }], guard := none }) (v := ?_) rfl (by as_aux_lemma => kernel_rfl) (by as_aux_lemma => kernel_rfl) (by as_aux_lemma => kernel_rfl) (fun _ _ _ h => h) (Or.inl ⟨by rfl, ?_⟩) (by assumption) ?_
        rotate_left
        · intro wq hSw
          go_simp
          try with_reducible rfl
        simp only [Act.put, List.setIfInBounds_toArray, List.set_cons_zero, List.set_cons_succ]
        refine wpAnyH_take (i := 6) (oi := { dst := some 36, op := Op.load 48 (Operand.tmp 35), type := 48, pos := "ref.go:70", after := #[{ on := 5, ground := Ground.data }], guard := none }) (v := ?_) rfl (by as_aux_lemma => kernel_rfl) (by as_aux_lemma => kernel_rfl) (by as_aux_lemma => kernel_rfl) (fun _ _ _ h => h) (Or.inl ⟨by rfl, ?_⟩) (by assumption) ?_
        rotate_left
        · intro wq hSw
          have e0 := (hSw.2.2.cell (p := (ad.add (k * 7))) HAB.out).trans HD.out.1; have e1 := (hSw.2.2.cell (p := ⟨(ad.add (k * 7)).block, (ad.add (k * 7)).off + 1, none⟩) HAB.out).trans HD.out.2.1; have e2 := (hSw.2.2.cell (p := ⟨(ad.add (k * 7)).block, (ad.add (k * 7)).off + 2, none⟩) HAB.out).trans HD.out.2.2.1; have e3 := (hSw.2.2.cell (p := ⟨(ad.add (k * 7)).block, (ad.add (k * 7)).off + 3, none⟩) HAB.out).trans HD.out.2.2.2.1; have e4 := (hSw.2.2.cell (p := ⟨(ad.add (k * 7)).block, (ad.add (k * 7)).off + 4, none⟩) HAB.out).trans HD.out.2.2.2.2.1; have e5 := (hSw.2.2.cell (p := ⟨(ad.add (k * 7)).block, (ad.add (k * 7)).off + 5, none⟩) HAB.out).trans HD.out.2.2.2.2.2.1; have e6 := (hSw.2.2.cell (p := ⟨(ad.add (k * 7)).block, (ad.add (k * 7)).off + 6, none⟩) HAB.out).trans HD.out.2.2.2.2.2.2
          go_simp
          try with_reducible rfl
        simp only [Act.put, List.setIfInBounds_toArray, List.set_cons_zero, List.set_cons_succ]
        refine wpAnyH_take (i := 7) (oi := { dst := some 37, op := Op.fieldAddr 50 (Operand.tmp 5) 2, type := 0, pos := "ref.go:70", after := #[], guard := none }) (v := ?_) rfl (by as_aux_lemma => kernel_rfl) (by as_aux_lemma => kernel_rfl) (by as_aux_lemma => kernel_rfl) (fun _ _ _ h => h) (Or.inl ⟨by rfl, ?_⟩) (by assumption) ?_
        rotate_left
        · intro wq hSw
          go_simp
          try with_reducible rfl
        simp only [Act.put, List.setIfInBounds_toArray, List.set_cons_zero, List.set_cons_succ]
        refine wpAnyH_take (i := 8) (oi := { dst := some 38, op := Op.load 3 (Operand.tmp 37), type := 3, pos := "ref.go:70", after := #[{ on := 7, ground := Ground.data }], guard := none }) (v := ?_) rfl (by as_aux_lemma => kernel_rfl) (by as_aux_lemma => kernel_rfl) (by as_aux_lemma => kernel_rfl) (fun _ _ _ h => h) (Or.inl ⟨by rfl, ?_⟩) (by assumption) ?_
        rotate_left
        · intro wq hSw
          have o0 := hSw.2.1.cell 0 _ rfl; have o1 := hSw.2.1.cell 1 _ rfl; have o2 := hSw.2.1.cell 2 _ rfl; have o3 := hSw.2.1.cell 3 _ rfl; have o4 := hSw.2.1.cell 4 _ rfl; have o5 := hSw.2.1.cell 5 _ rfl; have o6 := hSw.2.1.cell 6 _ rfl
          go_simp
          try with_reducible rfl
        simp only [Act.put, List.setIfInBounds_toArray, List.set_cons_zero, List.set_cons_succ]
        refine wpAnyH_take (i := 9) (oi := { dst := some 39, op := Op.move (Operand.tmp 1), type := 24, pos := "ref.go:70", after := #[], guard := none }) (v := ?_) rfl (by as_aux_lemma => kernel_rfl) (by as_aux_lemma => kernel_rfl) (by as_aux_lemma => kernel_rfl) (fun _ _ _ h => h) (Or.inl ⟨by rfl, ?_⟩) (by assumption) ?_
        rotate_left
        · intro wq hSw
          go_simp
          try with_reducible rfl
        simp only [Act.put, List.setIfInBounds_toArray, List.set_cons_zero, List.set_cons_succ]
        refine wpAnyH_take (i := 10) (oi := { dst := some 40, op := Op.move (Operand.tmp 8), type := 3, pos := "ref.go:70", after := #[], guard := none }) (v := ?_) rfl (by as_aux_lemma => kernel_rfl) (by as_aux_lemma => kernel_rfl) (by as_aux_lemma => kernel_rfl) (fun _ _ _ h => h) (Or.inl ⟨by rfl, ?_⟩) (by assumption) ?_
        rotate_left
        · intro wq hSw
          go_simp
          try with_reducible rfl
        simp only [Act.put, List.setIfInBounds_toArray, List.set_cons_zero, List.set_cons_succ]
        refine wpAnyH_take (i := 11) (oi := { dst := some 41, op := Op.indexAddr 24 (Operand.tmp 39) (Operand.tmp 40), type := 0, pos := "ref.go:70", after := #[{ on := 9, ground := Ground.data }, { on := 10, ground := Ground.data }], guard := none }) (v := ?_) rfl (by as_aux_lemma => kernel_rfl) (by as_aux_lemma => kernel_rfl) (by as_aux_lemma => kernel_rfl) (fun _ _ _ h => h) (Or.inl ⟨by rfl, ?_⟩) (by assumption) ?_
        rotate_left
        · intro wq hSw
          go_simp
          try with_reducible rfl
        simp only [Act.put, List.setIfInBounds_toArray, List.set_cons_zero, List.set_cons_succ]
        refine wpAnyH_take (i := 12) (oi := { dst := some 42, op := Op.fieldAddr 50 (Operand.tmp 41) 2, type := 0, pos := "ref.go:70", after := #[{ on := 11, ground := Ground.data }], guard := none }) (v := ?_) rfl (by as_aux_lemma => kernel_rfl) (by as_aux_lemma => kernel_rfl) (by as_aux_lemma => kernel_rfl) (fun _ _ _ h => h) (Or.inl ⟨by rfl, ?_⟩) (by assumption) ?_
        rotate_left
        · intro wq hSw
          go_simp
          try with_reducible rfl
        simp only [Act.put, List.setIfInBounds_toArray, List.set_cons_zero, List.set_cons_succ]
        refine wpAnyH_take (i := 13) (oi := { dst := some 43, op := Op.load 3 (Operand.tmp 42), type := 3, pos := "ref.go:70", after := #[{ on := 12, ground := Ground.data }], guard := none }) (v := ?_) rfl (by as_aux_lemma => kernel_rfl) (by as_aux_lemma => kernel_rfl) (by as_aux_lemma => kernel_rfl) (fun _ _ _ h => h) (Or.inl ⟨by rfl, ?_⟩) (by assumption) ?_
        rotate_left
        · intro wq hSw
          have e0 := (hSw.2.2.cell (p := (ad.add (k * 7))) HAB.out).trans HD.out.1; have e1 := (hSw.2.2.cell (p := ⟨(ad.add (k * 7)).block, (ad.add (k * 7)).off + 1, none⟩) HAB.out).trans HD.out.2.1; have e2 := (hSw.2.2.cell (p := ⟨(ad.add (k * 7)).block, (ad.add (k * 7)).off + 2, none⟩) HAB.out).trans HD.out.2.2.1; have e3 := (hSw.2.2.cell (p := ⟨(ad.add (k * 7)).block, (ad.add (k * 7)).off + 3, none⟩) HAB.out).trans HD.out.2.2.2.1; have e4 := (hSw.2.2.cell (p := ⟨(ad.add (k * 7)).block, (ad.add (k * 7)).off + 4, none⟩) HAB.out).trans HD.out.2.2.2.2.1; have e5 := (hSw.2.2.cell (p := ⟨(ad.add (k * 7)).block, (ad.add (k * 7)).off + 5, none⟩) HAB.out).trans HD.out.2.2.2.2.2.1; have e6 := (hSw.2.2.cell (p := ⟨(ad.add (k * 7)).block, (ad.add (k * 7)).off + 6, none⟩) HAB.out).trans HD.out.2.2.2.2.2.2
          go_simp
          try with_reducible rfl
        simp only [Act.put, List.setIfInBounds_toArray, List.set_cons_zero, List.set_cons_succ]
        refine wpAnyH_ready (rs := [14]) (by as_aux_lemma => kernel_rfl) (by simp) ?_
        refine AllReadyH.cons (o := { dst := some 44, op := Op.call { callee := Callee.value (Operand.func 34), args := #[Operand.tmp 31, Operand.tmp 36, Operand.tmp 38, Operand.tmp 43], argTypes := #[48, 48, 3, 3] }, type := 51, pos := "ref.go:70", after := #[{ on := 1, ground := Ground.data }, { on := 6, ground := Ground.data }, { on := 8, ground := Ground.data }, { on := 13, ground := Ground.data }], guard := none }) rfl (fun K hK => ?_) AllReadyH.nil
        go_simp
        go_at_call 34
        refine (HM1.out _).mono ?_
        rintro ea3 wa3 ⟨rfl, hba⟩
        have hd4 : Bl w.heap.size [.int .i64 p, .int .i64 c, .int .i64 n, .int .i64 b, .int .i64 r, .int .i64 f, .int .i64 g] wa3 ∧ Bl (w.heap.size + 1) [.int .i64 o.c, .int .i64 o.n, .int .i64 o.s, .int .i64 o.p, .int .i64 o.l, .int .i64 o.u, .int .i64 o.q] wa3 ∧ Below w.heap.size w wa3 := ⟨hd3.1.below hba, hd3.2.1.below hba, Below.step hd3.2.2 hba⟩
        refine hK.out _ _ hd4 (fun hHeld => ?_)
        clear hK K hba
        try simp only [Act.put, List.setIfInBounds_toArray, List.set_cons_zero, List.set_cons_succ]
        refine wpAnyH_take (i := 15) (oi := { dst := some 29, op := Op.move (Operand.tmp 44), type := 51, pos := "ref.go:70", after := #[{ on := 14, ground := Ground.data }], guard := none }) (v := ?_) rfl (by as_aux_lemma => kernel_rfl) (by as_aux_lemma => kernel_rfl) (by as_aux_lemma => kernel_rfl) (fun _ _ _ h => h) (Or.inl ⟨by rfl, ?_⟩) (by assumption) ?_
        rotate_left
        · intro wq hSw
          go_simp
          try with_reducible rfl
        simp only [Act.put, List.setIfInBounds_toArray, List.set_cons_zero, List.set_cons_succ]
        refine wpAnyH_take (i := 16) (oi := { dst := some 45, op := Op.extract (Operand.tmp 29) 0, type := 3, pos := "ref.go:70", after := #[{ on := 15, ground := Ground.data }], guard := none }) (v := ?_) rfl (by as_aux_lemma => kernel_rfl) (by as_aux_lemma => kernel_rfl) (by as_aux_lemma => kernel_rfl) (fun _ _ _ h => h) (Or.inl ⟨by rfl, ?_⟩) (by assumption) ?_
        rotate_left
        · intro wq hSw
          go_simp
          try with_reducible rfl
        simp only [Act.put, List.setIfInBounds_toArray, List.set_cons_zero, List.set_cons_succ]
        refine wpAnyH_take (i := 17) (oi := { dst := some 46, op := Op.extract (Operand.tmp 29) 1, type := 3, pos := "ref.go:70", after := #[{ on := 15, ground := Ground.data }, { on := 18, ground := Ground.gcOnly Departure.lateStores }], guard := none }) (v := ?_) rfl (by as_aux_lemma => kernel_rfl) (by as_aux_lemma => kernel_rfl) (by as_aux_lemma => kernel_rfl) (fun _ _ _ h => h) (Or.inl ⟨by rfl, ?_⟩) (by assumption) ?_
        rotate_left
        · intro wq hSw
          go_simp
          try with_reducible rfl
        simp only [Act.put, List.setIfInBounds_toArray, List.set_cons_zero, List.set_cons_succ]
        refine wpAnyH_take (i := 18) (oi := { dst := some 9, op := Op.assign (Operand.tmp 45), type := 3, pos := "ref.go:70", after := #[{ on := 16, ground := Ground.data }, { on := 14, ground := Ground.chain }, { on := 0, ground := Ground.phase }, { on := 1, ground := Ground.phase }, { on := 2, ground := Ground.phase }, { on := 3, ground := Ground.phase }, { on := 4, ground := Ground.phase }, { on := 5, ground := Ground.phase }, { on := 6, ground := Ground.phase }, { on := 7, ground := Ground.phase }, { on := 8, ground := Ground.phase }, { on := 9, ground := Ground.phase }, { on := 10, ground := Ground.phase }, { on := 11, ground := Ground.phase }, { on := 12, ground := Ground.phase }, { on := 13, ground := Ground.phase }, { on := 14, ground := Ground.phase }, { on := 15, ground := Ground.phase }, { on := 16, ground := Ground.phase }, { on := 17, ground := Ground.textOnly Departure.lateStores }], guard := none }) (v := ?_) rfl (by as_aux_lemma => kernel_rfl) (by as_aux_lemma => kernel_rfl) (by as_aux_lemma => kernel_rfl) (fun _ _ _ h => h) (Or.inl ⟨by rfl, ?_⟩) (by assumption) ?_
        rotate_left
        · intro wq hSw
          go_simp
          try with_reducible rfl
        simp only [Act.put, List.setIfInBounds_toArray, List.set_cons_zero, List.set_cons_succ]
        refine wpAnyH_take (i := 19) (oi := { dst := some 10, op := Op.assign (Operand.tmp 46), type := 3, pos := "ref.go:70", after := #[{ on := 17, ground := Ground.data }, { on := 18, ground := Ground.chain }, { on := 0, ground := Ground.phase }, { on := 1, ground := Ground.phase }, { on := 2, ground := Ground.phase }, { on := 3, ground := Ground.phase }, { on := 4, ground := Ground.phase }, { on := 5, ground := Ground.phase }, { on := 6, ground := Ground.phase }, { on := 7, ground := Ground.phase }, { on := 8, ground := Ground.phase }, { on := 9, ground := Ground.phase }, { on := 10, ground := Ground.phase }, { on := 11, ground := Ground.phase }, { on := 12, ground := Ground.phase }, { on := 13, ground := Ground.phase }, { on := 14, ground := Ground.phase }, { on := 15, ground := Ground.phase }, { on := 16, ground := Ground.phase }, { on := 17, ground := Ground.phase }, { on := 18, ground := Ground.phase }], guard := none }) (v := ?_) rfl (by as_aux_lemma => kernel_rfl) (by as_aux_lemma => kernel_rfl) (by as_aux_lemma => kernel_rfl) (fun _ _ _ h => h) (Or.inl ⟨by rfl, ?_⟩) (by assumption) ?_
        rotate_left
        · intro wq hSw
          go_simp
          try with_reducible rfl
        simp only [Act.put, List.setIfInBounds_toArray, List.set_cons_zero, List.set_cons_succ]
        refine wpAnyH_done (by as_aux_lemma => kernel_rfl) ?_ _
        have HD4 := Lib.hid hd4
        clear hd2 hd3 hd4 hHeld
        go_wp2_with fail
        go_roundw
        case rel => exact ⟨k + 1, Hk.out, by go_num, by rw [HSC.out, if_neg HE2.out], Lib.hid HD4.out⟩
        case measure => have := Hk.out; simp [intOf]; omega
    · have hke : k = ln := by omega
      subst hke
      have o6 := HR.out.2.1.cell 6 _ rfl
      have HB := Lib.hid HR.out.2.2
      obtain ⟨S, hS⟩ : ∃ S, S = rsum p c o (lst k gv) := ⟨_, rfl⟩
      have hr : rch p c o (lst k gv) = max 0 (min S o.q) := by rw [hS]; rfl
      rw [← hS] at s1 s2 ⊢
      by_cases h1 : o.q < S
      · by_cases h2 : o.q < 0
        · have HRR : Hid (rch p c o (lst k gv) = 0) := Lib.hid (by rw [hr]; omega)
          clear HR hk hlt hS hr
          go_wp2_with fail
          go_ret
          exact ⟨by rw [HRR.out]; rfl, HB.out⟩
        · have HRR : Hid (rch p c o (lst k gv) = o.q) := Lib.hid (by rw [hr]; omega)
          have dz : decide (o.q < 0) = false := decide_eq_false h2
          clear HR hk hlt hS hr
          go_wp2_with fail
          go_ret
          exact ⟨by rw [HRR.out]; rfl, HB.out⟩
      · have HRR : Hid (rch p c o (lst k gv) = S) := Lib.hid (by rw [hr]; omega)
        have dz : decide (o.q < S) = false := decide_eq_false h1
        have dy : decide (S < 0) = false := decide_eq_false (by omega)
        clear HR hk hlt hS hr
        go_wp2_with fail
        go_ret
        exact ⟨by rw [HRR.out]; rfl, HB.out⟩
end Go.Proofs.Ytafignfoejefjaa

/-
  slices.Clone of orders, book.New, Orders.
-/
import Derived.Test.YtafignfoejefjaaRows
import Derived.Test.YtafignfoejefjaaKit
import Derived.Test.YtafignfoejefjaaApp
import Derived.Test.YtafignfoejefjaaQuiet
import Derived.WalkKit
import Derived.ProofKit
import Derived.OpenShut
import Derived.ShutString
import Derived.Below
import Derived.Outline
import Derived.WalkLawsBesides
import Derived.WalkSpells
import Derived.Handy
import Derived.Deep.QuietTactic
import Derived.BigQuiet
import Derived.RegionTactic
import Derived.ChangeAlike
import Derived.Lib.Hide
import Derived.Laws.Rows
import Derived.Laws.Tables
import Derived.Laws.CopyOwn
import Derived.Laws.MakeOwn
import Derived.Laws.Entries
import Derived.Laws.OwnMore
import Derived.Deep.WholeRow
import Derived.Deep.LoopGhost
import Derived.Deep.AppendLies
import Derived.Deep.Draws
import Derived.Maps.AppendAt
import Derived.OwnWalk
import Derived.Deep.RegionHeld3
import Derived.Deep.Cut
import Derived.Deep.CutRange
import Derived.Deep.DeepCutAuto
import Derived.Deep.CutBlock
import Derived.Lib.SliceRun
import Derived.IntWalk
import Derived.Test.YtafignfoejefjaaBkM
import Derived.Test.YtafignfoejefjaaBkO
namespace Go.Proofs.Ytafignfoejefjaa
open Go.ChangeShapes Go.WideShapes Go.ChangeAt Go.RowKit
theorem infoO1 : (Try.prog.info? 55).map (fun i => (i.zero, i.size, i.bytes)) = some (some (.agg #[.int .i64 0, .int .i64 0, .int .i64 0, .int .i64 0, .int .i64 0, .int .i64 0, .int .i64 0]), 7, 56) := by kernel_rfl
set_option maxRecDepth 100000 in
set_option maxHeartbeats 2000000 in
theorem clone_some (ad : Addr) (cap : Nat) (os : List Ord) (w : World) (hr : Reads w w.heap.size 7 (some ad) os.length (ov os)) (hl : os.length ≤ 1000) : Calls Try.prog 35 #[.slice (some ad) os.length cap] w fun e w' => ∃ v, e = .returned v ∧ w'.ownsRow w.heap.size 55 7 v os.length (ov os) ∧ Below w.heap.size w w' := by
  obtain ⟨i0, hi, hz0, hz1, hz2⟩ := info_parts infoO1
  have HI := Lib.hid hi
  have HZ0 := Lib.hid hz0
  have HZ1 := Lib.hid hz1
  have HZ2 := Lib.hid hz2
  have HR := Lib.hid (hr.alloc (Nat.le_refl _) (.cells #[] 55))
  have HO := Lib.hid (World.ownsRow_lit (base := w.heap.size) (e := 55) (size := 7) w #[] 0 (Nat.le_refl _) (by unfold maxLen; omega) rfl)
  have NV := Lib.hid (ov_one os)
  have N1 := Lib.hid (show 0 + os.length ≤ maxLen from by unfold maxLen; omega)
  have N2 := Lib.hid (show (0 + os.length) * 56 ≤ 140737488355328 from by omega)
  have N3 := Lib.hid (show w.heap.size ≤ (w.alloc (.cells #[] 55)).heap.size from by simp)
  have hE : ∀ W, (binOp .eql 27 (.slice (some ad) os.length cap) (.slice none 0 0)).run Try.prog W = .ok (.bool false) W := fun W => Lib.run_eql_slice_nil W 27 55 (some ad) os.length cap 0 0 Try.underlying27
  clear hi hz0 hz1 hz2 hr
  go_enter Try.func35, Try.ntmps35
  go_wp2_with (at_builtin; refine wpList_append_any _ rfl (.tmp 5) (.tmp 6) 27 rfl w.heap.size 55 i0 (Value.agg #[.int .i64 0, .int .i64 0, .int .i64 0, .int .i64 0, .int .i64 0, .int .i64 0, .int .i64 0]) 7 56 Try.underlying27 HI.out HZ0.out HZ1.out HZ2.out rfl (by decide) _ 0 _ rfl HO.out _ (some ad) os.length cap _ rfl HR.out NV.out N1.out N2.out N3.out ?_; intro v3 w3 hown3 hgrow3 hblk3; have HP := Lib.hid (And.intro hown3 hgrow3); clear hown3 hgrow3 hblk3)
  go_ret
  exact ⟨_, rfl, by have h := HP.out.1; rw [Nat.zero_add] at h; exact h, Below.grown ((Below.refl _ _).alloc (Nat.le_refl _) _) HP.out.2 (by simp) (fun g e => (HO.out.lt g e).1)⟩
set_option maxRecDepth 100000 in
theorem clone_none (cap : Nat) (w : World) : Calls Try.prog 35 #[.slice none 0 cap] w fun e w' => e = .returned (.slice none 0 0) ∧ Below w.heap.size w w' := by
  have hE : ∀ W, (binOp .eql 27 (.slice none 0 cap) (.slice none 0 0)).run Try.prog W = .ok (.bool true) W := fun W => Lib.run_eql_slice_nil W 27 55 none 0 cap 0 0 Try.underlying27
  go_enter Try.func35, Try.ntmps35
  go_wp2_with fail
  go_ret
  exact ⟨rfl, by go_grown⟩
theorem clone_is (base cap : Nat) (A : Option Addr) (n : Nat) (os : List Ord) (w : World) (hn : n = os.length) (h : w.ownsRow base 55 7 (.slice A n cap) n (ov os)) (hl : os.length ≤ 1000) : Calls Try.prog 35 #[.slice A n cap] w fun e w' => ∃ v, e = .returned v ∧ w'.ownsRow w.heap.size 55 7 v os.length (ov os) ∧ Below w.heap.size w w' := by
  subst hn
  rcases h.2 with ⟨hv, h0⟩ | ⟨g, cp, cur, hv, _⟩
  · injection hv with e1 e2 e3
    subst e1
    have hn : os = [] := List.eq_nil_of_length_eq_zero h0
    subst hn
    exact (clone_none cap w).mono fun e w' hh => ⟨_, hh.1, ⟨rfl, .inl ⟨rfl, rfl⟩⟩, hh.2⟩
  · injection hv with e1 e2 e3
    subst e1
    exact clone_some ⟨g, 0, none⟩ cap os w (Reads.of_own h) hl
set_option maxRecDepth 100000 in
set_option maxHeartbeats 2000000 in
theorem new_is (p c n b r f g : Int) (base cap : Nat) (A : Option Addr) (m : Nat) (os : List Ord) (w : World) (hm : m = os.length) (h : w.ownsRow base 55 7 (.slice A m cap) m (ov os)) (hl : os.length ≤ 1000) : Calls Try.prog 23 #[.agg #[.int .i64 p, .int .i64 c, .int .i64 n, .int .i64 b, .int .i64 r, .int .i64 f, .int .i64 g], .slice A m cap] w fun e w' => ∃ v, e = .returned (.agg #[.int .i64 p, .int .i64 c, .int .i64 n, .int .i64 b, .int .i64 r, .int .i64 f, .int .i64 g, v]) ∧ w'.ownsRow w.heap.size 55 7 v os.length (ov os) ∧ Below w.heap.size w w' := by
  have HH := Lib.hid (And.intro hm h)
  have HC := Lib.hid (fun (W : World) (hb : Below w.heap.size w W) => clone_is base cap A m os W HH.out.1 (rkept HH.out.2 hb) hl)
  clear hl hm h
  go_enter Try.func23, Try.ntmps23
  go_wp2_with fail
  have b2 := (Bl.new w [.int .i64 p, .int .i64 c, .int .i64 n, .int .i64 b, .int .i64 r, .int .i64 f, .int .i64 g] 26)
  have hz1 : (w.alloc (.cells (List.toArray [.int .i64 p, .int .i64 c, .int .i64 n, .int .i64 b, .int .i64 r, .int .i64 f, .int .i64 g]) 26)).heap.size = w.heap.size + 1 := World.size_alloc ..
  have hB1 : Below w.heap.size w (w.alloc (.cells (List.toArray [.int .i64 p, .int .i64 c, .int .i64 n, .int .i64 b, .int .i64 r, .int .i64 f, .int .i64 g]) 26)) := by go_grown
  obtain ⟨W1, hW1⟩ : ∃ W1, W1 = w.alloc (.cells (List.toArray [.int .i64 p, .int .i64 c, .int .i64 n, .int .i64 b, .int .i64 r, .int .i64 f, .int .i64 g]) 26) := ⟨_, rfl⟩
  rw [← hW1] at b2 hz1 hB1 ⊢
  clear hW1
  have b4 := Bl.new W1 [.int .i64 0, .int .i64 0, .int .i64 0, .int .i64 0, .int .i64 0, .int .i64 0, .int .i64 0, .slice none 0 0] 29
  have hB2 : Below W1.heap.size W1 (W1.alloc (.cells (List.toArray [.int .i64 0, .int .i64 0, .int .i64 0, .int .i64 0, .int .i64 0, .int .i64 0, .int .i64 0, .slice none 0 0]) 29)) := by go_grown
  have b2' := b2.below hB2
  rw [hz1] at b4
  obtain ⟨W2, hW2⟩ : ∃ W2, W2 = W1.alloc (.cells (List.toArray [.int .i64 0, .int .i64 0, .int .i64 0, .int .i64 0, .int .i64 0, .int .i64 0, .int .i64 0, .slice none 0 0]) 29) := ⟨_, rfl⟩
  have hz2 : W2.heap.size = w.heap.size + 2 := by rw [hW2, World.size_alloc, hz1]
  rw [← hW2] at b4 b2' hB2 ⊢
  have hB := Below.step hB1 hB2
  clear hW2 hB1 hB2 b2 hz1
  have HB4 : Hid (Bl (w.heap.size + 1) [.int .i64 0, .int .i64 0, .int .i64 0, .int .i64 0, .int .i64 0, .int .i64 0, .int .i64 0, .slice none 0 0] W2.drew) := Lib.hid b4
  have HZ2 := Lib.hid hz2
  have HB := Lib.hid hB
  have hd : Bl w.heap.size [.int .i64 p, .int .i64 c, .int .i64 n, .int .i64 b, .int .i64 r, .int .i64 f, .int .i64 g] W2.drew := b2'
  clear b4 b2' hB hz2
  refine wp_region_held_drew (S := fun w' => Bl w.heap.size [.int .i64 p, .int .i64 c, .int .i64 n, .int .i64 b, .int .i64 r, .int .i64 f, .int .i64 g] w') (by kernel_rfl) hd (fun hHeld => ?_)
  refine wpAnyH_take (i := 0) (oi := { dst := some 5, op := Op.load 26 (Operand.tmp 2), type := 26, pos := "book.go:36", after := #[], guard := none }) (v := ?_) rfl (by as_aux_lemma => kernel_rfl) (by as_aux_lemma => kernel_rfl) (by as_aux_lemma => kernel_rfl) (fun _ _ _ h => h) (Or.inl ⟨by rfl, ?_⟩) (by assumption) ?_
  rotate_left
  · intro wq hSw
    have h0 := hSw.cell 0 _ rfl; have h1 := hSw.cell 1 _ rfl; have h2 := hSw.cell 2 _ rfl; have h3 := hSw.cell 3 _ rfl; have h4 := hSw.cell 4 _ rfl; have h5 := hSw.cell 5 _ rfl; have h6 := hSw.cell 6 _ rfl
    go_simp
    try with_reducible rfl
  simp only [Act.put, List.setIfInBounds_toArray, List.set_cons_zero, List.set_cons_succ]
  refine wpAnyH_take (i := 1) (oi := { dst := some 6, op := Op.move (Operand.tmp 1), type := 27, pos := "book.go:36", after := #[], guard := none }) (v := ?_) rfl (by as_aux_lemma => kernel_rfl) (by as_aux_lemma => kernel_rfl) (by as_aux_lemma => kernel_rfl) (fun _ _ _ h => h) (Or.inl ⟨by rfl, ?_⟩) (by assumption) ?_
  rotate_left
  · intro wq hSw
    go_simp
    try with_reducible rfl
  simp only [Act.put, List.setIfInBounds_toArray, List.set_cons_zero, List.set_cons_succ]
  refine wpAnyH_ready (rs := [2]) (by as_aux_lemma => kernel_rfl) (by simp) ?_
  refine AllReadyH.cons (o := { dst := some 7, op := Op.call { callee := Callee.value (Operand.func 35), args := #[Operand.tmp 6], argTypes := #[27] }, type := 27, pos := "book.go:36", after := #[{ on := 1, ground := Ground.data }], guard := none }) rfl (fun K hK => ?_) AllReadyH.nil
  go_simp
  go_at_call 35
  refine (HC.out _ ?_).mono ?_
  · exact HB.out.drew
  rintro ey wy ⟨v, rfl, ho, hb⟩
  obtain ⟨A2, c2, rfl⟩ := oshape ho
  have HO := Lib.hid (And.intro ho hb)
  refine hK.out _ _ (hd.below hb) (fun hHeld => ?_)
  clear hK K ho hb
  try simp only [Act.put, List.setIfInBounds_toArray, List.set_cons_zero, List.set_cons_succ]
  refine wpAnyH_take (i := 3) (oi := { dst := some 8, op := Op.build 29 #[(0, Operand.tmp 5), (1, Operand.tmp 7)], type := 29, pos := "book.go:36", after := #[{ on := 0, ground := Ground.data }, { on := 2, ground := Ground.data }], guard := none }) (v := ?_) rfl (by as_aux_lemma => kernel_rfl) (by as_aux_lemma => kernel_rfl) (by as_aux_lemma => kernel_rfl) (fun _ _ _ h => h) (Or.inl ⟨by rfl, ?_⟩) (by assumption) ?_
  rotate_left
  · intro wq hSw
    go_simp
    try with_reducible rfl
  simp only [Act.put, List.setIfInBounds_toArray, List.set_cons_zero, List.set_cons_succ]
  refine wpAnyH_ready (rs := [4]) (by as_aux_lemma => kernel_rfl) (by simp) ?_
  refine AllReadyH.cons (o := { dst := none, op := Op.store 29 (Operand.tmp 4) (Operand.tmp 8), type := 0, pos := "book.go:36", after := #[{ on := 3, ground := Ground.data }, { on := 2, ground := Ground.chain }, { on := 0, ground := Ground.phase }, { on := 1, ground := Ground.phase }, { on := 2, ground := Ground.phase }, { on := 3, ground := Ground.phase }], guard := none }) rfl (fun K hK => ?_) AllReadyH.nil
  rw [if_pos (by rfl)]
  refine wp_store_bl 29 (.tmp 4) (.tmp 8) rfl (w.heap.size + 1) [.int .i64 0, .int .i64 0, .int .i64 0, .int .i64 0, .int .i64 0, .int .i64 0, .int .i64 0, .slice none 0 0] [.int .i64 p, .int .i64 c, .int .i64 n, .int .i64 b, .int .i64 r, .int .i64 f, .int .i64 g, .slice A2 os.length c2] rfl rfl (HB4.out.below HO.out.2) rfl (by kernel_rfl) ?_ ?_
  · rfl
  intro w8 hb8 hk8 hs8 hbel8
  refine hK.out _ _ ?_ (fun hHeld => ?_)
  · obtain ⟨t, ht⟩ := hd.below HO.out.2
    exact ⟨t, (hk8 _ (by omega) (hd.below HO.out.2).lt).trans ht⟩
  clear hK K
  try simp only [Act.put, List.setIfInBounds_toArray, List.set_cons_zero, List.set_cons_succ]
  refine wpAnyH_done (by as_aux_lemma => kernel_rfl) ?_ _
  have HF := Lib.hid (And.intro hb8 (And.intro hk8 (And.intro hs8 hbel8)))
  clear hb8 hk8 hs8 hbel8 hHeld hd
  go_wp2_with fail
  refine bodyPost_ret (results_bl (ty := 29) rfl _ _ (w.heap.size + 1) [.int .i64 p, .int .i64 c, .int .i64 n, .int .i64 b, .int .i64 r, .int .i64 f, .int .i64 g, .slice A2 os.length c2] _ rfl HF.out.1 Try.underlying29 rfl (by kernel_rfl)) rfl ⟨_, rfl, ?_, ?_⟩
  · have hs : W2.drew.heap.size = w.heap.size + 2 := HZ2.out
    refine own_base (rfar HO.out.1 (fun k hk hk2 => HF.out.2.1 k (by omega) hk2)) (by omega)
  · exact HF.out.2.2.2 _ _ (by omega) (Below.step (HB.out.drew) HO.out.2)
set_option maxRecDepth 100000 in
set_option maxHeartbeats 2000000 in
theorem orders_is (p c n b r f g : Int) (base cap : Nat) (A : Option Addr) (m : Nat) (os : List Ord) (w : World) (hm : m = os.length) (h : w.ownsRow base 55 7 (.slice A m cap) m (ov os)) (hl : os.length ≤ 1000) : Calls Try.prog 19 #[.agg #[.int .i64 p, .int .i64 c, .int .i64 n, .int .i64 b, .int .i64 r, .int .i64 f, .int .i64 g, .slice A m cap]] w fun e w' => ∃ v, e = .returned v ∧ w'.ownsRow w.heap.size 55 7 v os.length (ov os) ∧ Below w.heap.size w w' := by
  have HH := Lib.hid (And.intro hm h)
  have HC := Lib.hid (fun (W : World) (hb : Below w.heap.size w W) => clone_is base cap A m os W HH.out.1 (rkept HH.out.2 hb) hl)
  clear hl hm h
  go_enter Try.func19, Try.ntmps19
  go_wp2_with fail
  refine (HC.out _ (by go_grown)).mono ?_
  rintro e w2 ⟨v, rfl, ho, hb⟩
  obtain ⟨A2, c2, rfl⟩ := oshape ho
  have HO := Lib.hid (And.intro ho hb)
  clear ho hb
  go_wp2_with fail
  go_ret
  exact ⟨_, rfl, own_base HO.out.1 (by simp), Below.step (by go_grown) HO.out.2⟩
end Go.Proofs.Ytafignfoejefjaa

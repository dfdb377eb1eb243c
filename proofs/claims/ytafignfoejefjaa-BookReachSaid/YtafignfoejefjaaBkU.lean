/-
  How much an order reaches.
-/
import Derived.Test.YtafignfoejefjaaRows
import Derived.Test.YtafignfoejefjaaKit
import Derived.Test.YtafignfoejefjaaApp
import Derived.Test.YtafignfoejefjaaQuiet
import Derived.WalkKit
import Derived.ProofKit
import Derived.OpenShut
import Derived.ShutString
import Derived.Below
import Derived.Outline
import Derived.WalkLawsBesides
import Derived.WalkSpells
import Derived.Handy
import Derived.Deep.QuietTactic
import Derived.BigQuiet
import Derived.RegionTactic
import Derived.ChangeAlike
import Derived.Lib.Hide
import Derived.Laws.Rows
import Derived.Laws.Tables
import Derived.Laws.CopyOwn
import Derived.Laws.MakeOwn
import Derived.Laws.Entries
import Derived.Laws.OwnMore
import Derived.Deep.WholeRow
import Derived.Deep.LoopGhost
import Derived.Deep.AppendLies
import Derived.Deep.Draws
import Derived.Maps.AppendAt
import Derived.OwnWalk
import Derived.Deep.RegionHeld3
import Derived.Deep.Cut
import Derived.Deep.CutRange
import Derived.Deep.DeepCutAuto
import Derived.Deep.CutBlock
import Derived.Lib.SliceRun
import Derived.IntWalk
import Derived.Test.YtafignfoejefjaaBkM
import Derived.Test.YtafignfoejefjaaBkO
import Derived.Test.YtafignfoejefjaaBkP
import Derived.Test.YtafignfoejefjaaBkQ
import Derived.Test.YtafignfoejefjaaBkL
import Derived.Test.YtafignfoejefjaaBkR
import Derived.Test.YtafignfoejefjaaBkT
import Derived.Test.YtafignfoejefjaaMatch
import Derived.Test.YtafignfoejefjaaRMatch
namespace Go.Proofs.Ytafignfoejefjaa
open Go.ChangeShapes Go.WideShapes Go.ChangeAt Go.RowKit
open Classical in
/-- So many of an order and another one match. -/
noncomputable def mq (o x : Ord) : Int := if No o.n o.s o.p o.l x.n x.s x.p x.l o.q x.q then 0 else min o.q x.q
theorem mq_is (o x : Ord) (ho : 1 ≤ o.p ∧ o.p ≤ 9999) (hx : 1 ≤ x.p ∧ x.p ≤ 9999) : ∃ P : Int, (∀ w, Calls Try.prog 32 #[.agg #[.int .i64 o.n, .int .i64 o.s, .int .i64 o.p, .int .i64 o.l, .int .i64 o.u], .agg #[.int .i64 x.n, .int .i64 x.s, .int .i64 x.p, .int .i64 x.l, .int .i64 x.u], .int .i64 o.q, .int .i64 x.q] w (MatchPost w (mq o x) P)) ∧ ∀ w, Calls Try.prog 34 #[.agg #[.int .i64 o.n, .int .i64 o.s, .int .i64 o.p, .int .i64 o.l, .int .i64 o.u], .agg #[.int .i64 x.n, .int .i64 x.s, .int .i64 x.p, .int .i64 x.l, .int .i64 x.u], .int .i64 o.q, .int .i64 x.q] w (RefPost w (mq o x) P) := by
  by_cases h : No o.n o.s o.p o.l x.n x.s x.p x.l o.q x.q
  · refine ⟨0, ?_⟩
    unfold mq
    rw [if_pos h]
    exact ⟨fun w => match_no _ _ _ _ _ _ _ _ _ _ _ _ w h, fun w => rmatch_no _ _ _ _ _ _ _ _ _ _ _ _ w h⟩
  · refine ⟨(o.p + x.p) / 2, ?_⟩
    have hy := (yes_or_no o.n o.s o.p o.l x.n x.s x.p x.l o.q x.q).resolve_left h
    unfold mq
    rw [if_neg h]
    exact ⟨fun w => match_yes _ _ _ _ _ _ _ _ _ _ _ _ _ _ w hy ho.1 ho.2 hx.1 hx.2, fun w => rmatch_yes _ _ _ _ _ _ _ _ _ _ _ _ _ _ w hy ho.1 ho.2 hx.1 hx.2⟩
theorem mq_bd (o x : Ord) (hx : x.q ≤ 9999) : 0 ≤ mq o x ∧ mq o x ≤ 9999 := by
  unfold mq
  split
  · omega
  · rename_i h
    have hy := (yes_or_no o.n o.s o.p o.l x.n x.s x.p x.l o.q x.q).resolve_left h
    unfold Yes at hy
    have h1 := hy.2.2.2.1
    omega
noncomputable def rsum (p c : Int) (o : Ord) : List Ord → Int
  | [] => 0
  | x :: t => (if ow p c x.c = ow p c o.c then 0 else mq o x) + rsum p c o t
theorem rsum_app (p c : Int) (o : Ord) (a b : List Ord) : rsum p c o (a ++ b) = rsum p c o a + rsum p c o b := by
  induction a with
  | nil => simp [rsum]
  | cons x t ih => simp only [List.cons_append, rsum, ih]; omega
theorem rsum_bd (p c : Int) (o : Ord) : ∀ os : List Ord, Fine os → 0 ≤ rsum p c o os ∧ rsum p c o os ≤ 9999 * (os.length : Int)
  | [], _ => by simp [rsum]
  | x :: t, h => by
    have h1 := rsum_bd p c o t (fun y hy => h y (List.mem_cons_of_mem _ hy))
    have h2 := mq_bd o x (h x (List.mem_cons_self ..)).2.2.2
    simp only [rsum, List.length_cons]
    split <;> omega
/-- How much an order reaches. -/
noncomputable def rch (p c : Int) (o : Ord) (os : List Ord) : Int := max 0 (min (rsum p c o os) o.q)
set_option maxRecDepth 100000 in
set_option maxHeartbeats 8000000 in
theorem reach_is (p c n b r f g : Int) (base cap : Nat) (A : Option Addr) (m : Nat) (os : List Ord) (o : Ord) (w : World) (hm : m = os.length) (h : w.ownsRow base 55 7 (.slice A m cap) m (ov os)) (hl : os.length ≤ 40) (hF : Fine os) (ho : 1 ≤ o.p ∧ o.p ≤ 9999) (hp : 1 ≤ p ∧ p ≤ 6) (hc : 1 ≤ c ∧ c ≤ 4) : Calls Try.prog 16 #[.agg #[.int .i64 p, .int .i64 c, .int .i64 n, .int .i64 b, .int .i64 r, .int .i64 f, .int .i64 g, .slice A m cap], .agg (List.toArray [.int .i64 o.c, .int .i64 o.n, .int .i64 o.s, .int .i64 o.p, .int .i64 o.l, .int .i64 o.u, .int .i64 o.q])] w fun e w' => e = .returned (.int .i64 (rch p c o os)) ∧ Below w.heap.size w w' := by
  subst hm
  have HH := Lib.hid h
  have HL := Lib.hid hl
  have HF := Lib.hid hF
  have HOW := Lib.hid (fun (x : Int) W => owner_is p c n b r f g x W hp hc)
  have HMQ := Lib.hid (fun (x : Ord) (hx : 1 ≤ x.p ∧ x.p ≤ 9999) => mq_is o x ho hx)
  clear h hl hF hp hc ho
  go_enter Try.func16, Try.ntmps16
  go_wp2_with fail
  have b0 := (Bl.new w [.int .i64 p, .int .i64 c, .int .i64 n, .int .i64 b, .int .i64 r, .int .i64 f, .int .i64 g, .slice A os.length cap] 29).below (w' := (w.alloc (.cells (List.toArray [.int .i64 p, .int .i64 c, .int .i64 n, .int .i64 b, .int .i64 r, .int .i64 f, .int .i64 g, .slice A os.length cap]) 29)).alloc (.cells (List.toArray [.int .i64 o.c, .int .i64 o.n, .int .i64 o.s, .int .i64 o.p, .int .i64 o.l, .int .i64 o.u, .int .i64 o.q]) 55)) (by go_grown)
  have b1 := Bl.new (w.alloc (.cells (List.toArray [.int .i64 p, .int .i64 c, .int .i64 n, .int .i64 b, .int .i64 r, .int .i64 f, .int .i64 g, .slice A os.length cap]) 29)) [.int .i64 o.c, .int .i64 o.n, .int .i64 o.s, .int .i64 o.p, .int .i64 o.l, .int .i64 o.u, .int .i64 o.q] 55
  have g0 : Below w.heap.size w ((w.alloc (.cells (List.toArray [.int .i64 p, .int .i64 c, .int .i64 n, .int .i64 b, .int .i64 r, .int .i64 f, .int .i64 g, .slice A os.length cap]) 29)).alloc (.cells (List.toArray [.int .i64 o.c, .int .i64 o.n, .int .i64 o.s, .int .i64 o.p, .int .i64 o.l, .int .i64 o.u, .int .i64 o.q]) 55)) := by go_grown
  rw [World.size_alloc] at b1
  obtain ⟨W, hW⟩ : ∃ W, W = (w.alloc (.cells (List.toArray [.int .i64 p, .int .i64 c, .int .i64 n, .int .i64 b, .int .i64 r, .int .i64 f, .int .i64 g, .slice A os.length cap]) 29)).alloc (.cells (List.toArray [.int .i64 o.c, .int .i64 o.n, .int .i64 o.s, .int .i64 o.p, .int .i64 o.l, .int .i64 o.u, .int .i64 o.q]) 55) := ⟨_, rfl⟩
  rw [← hW] at b0 b1 g0 ⊢
  have HM0 : Hid (Bl w.heap.size [.int .i64 p, .int .i64 c, .int .i64 n, .int .i64 b, .int .i64 r, .int .i64 f, .int .i64 g, .slice A os.length cap] W ∧ Bl (w.heap.size + 1) [.int .i64 o.c, .int .i64 o.n, .int .i64 o.s, .int .i64 o.p, .int .i64 o.l, .int .i64 o.u, .int .i64 o.q] W ∧ Below w.heap.size w W) := Lib.hid ⟨b0, b1, g0⟩
  clear b0 b1 g0 hW
  go_loopw [5, 11] (fun t j wr => ∃ k : Nat, k ≤ os.length ∧ j = .int .i64 (k : Int) ∧ t = .int .i64 (rsum p c o (os.take k)) ∧ Hid (Bl w.heap.size [.int .i64 p, .int .i64 c, .int .i64 n, .int .i64 b, .int .i64 r, .int .i64 f, .int .i64 g, .slice A os.length cap] wr ∧ Bl (w.heap.size + 1) [.int .i64 o.c, .int .i64 o.n, .int .i64 o.s, .int .i64 o.p, .int .i64 o.l, .int .i64 o.u, .int .i64 o.q] wr ∧ Below w.heap.size w wr)) (fun _ j _ => os.length + 1 - (intOf j).toNat)
  case atStart => exact ⟨0, Nat.zero_le _, rfl, rfl, HM0⟩
  case round =>
    clear HM0
    obtain ⟨k, hk, rfl, rfl, HR⟩ := hrel
    have k0 : (0 : Int) ≤ (k : Int) := by omega
    have sb := rsum_bd p c o (os.take k) (HF.out.take k)
    have sl : (os.take k).length ≤ 40 := by have := HL.out; simp; omega
    have s1 : 0 ≤ rsum p c o (os.take k) := sb.1
    have s2 : rsum p c o (os.take k) ≤ 400000 := by have := sb.2; omega
    clear sb sl
    by_cases hlt : k < os.length
    · obtain ⟨gb, cp2, hv, _, hgl⟩ := own_some HH.out (by omega)
      injection hv with e1 e2 e3
      subst e1
      subst e3
      clear e2
      obtain ⟨x, hx⟩ : ∃ x, os[k]? = some x := ⟨os[k], List.getElem?_eq_getElem hlt⟩
      have d0 : wr.cell? ⟨gb, k * 7, none⟩ = some (.int .i64 x.c) := (HR.out.2.2.cell (p := ⟨gb, k * 7, none⟩) hgl).trans (orow_cell (j := 0) HH.out hx rfl (by omega) rfl)
      have d1 : wr.cell? ⟨gb, k * 7 + 1, none⟩ = some (.int .i64 x.n) := (HR.out.2.2.cell (p := ⟨gb, k * 7 + 1, none⟩) hgl).trans (orow_cell (j := 1) HH.out hx rfl (by omega) rfl)
      have d2 : wr.cell? ⟨gb, k * 7 + 2, none⟩ = some (.int .i64 x.s) := (HR.out.2.2.cell (p := ⟨gb, k * 7 + 2, none⟩) hgl).trans (orow_cell (j := 2) HH.out hx rfl (by omega) rfl)
      have d3 : wr.cell? ⟨gb, k * 7 + 3, none⟩ = some (.int .i64 x.p) := (HR.out.2.2.cell (p := ⟨gb, k * 7 + 3, none⟩) hgl).trans (orow_cell (j := 3) HH.out hx rfl (by omega) rfl)
      have d4 : wr.cell? ⟨gb, k * 7 + 4, none⟩ = some (.int .i64 x.l) := (HR.out.2.2.cell (p := ⟨gb, k * 7 + 4, none⟩) hgl).trans (orow_cell (j := 4) HH.out hx rfl (by omega) rfl)
      have d5 : wr.cell? ⟨gb, k * 7 + 5, none⟩ = some (.int .i64 x.u) := (HR.out.2.2.cell (p := ⟨gb, k * 7 + 5, none⟩) hgl).trans (orow_cell (j := 5) HH.out hx rfl (by omega) rfl)
      have d6 : wr.cell? ⟨gb, k * 7 + 6, none⟩ = some (.int .i64 x.q) := (HR.out.2.2.cell (p := ⟨gb, k * 7 + 6, none⟩) hgl).trans (orow_cell (j := 6) HH.out hx rfl (by omega) rfl)
      have q1 : (k : Int) < (os.length : Int) := by omega
      have q2 : (os.length : Int) ≤ 40 := by have := HL.out; omega
      have hfx := HF.out x (List.mem_of_getElem? hx)
      have hsucc : rsum p c o (os.take (k + 1)) = rsum p c o (os.take k) + (if ow p c x.c = ow p c o.c then 0 else mq o x) := by rw [List.take_add_one, hx, rsum_app]; simp [rsum]
      have HSC := Lib.hid hsucc
      obtain ⟨PX, hm1, _⟩ := HMQ.out x ⟨hfx.1, hfx.2.1⟩
      have hqb := mq_bd o x hfx.2.2.2
      have v1 : 0 ≤ mq o x := hqb.1
      have v2 : mq o x ≤ 9999 := hqb.2
      have HM1 := Lib.hid hm1
      have Hk := Lib.hid hlt
      clear hsucc hfx hm1 hqb hlt hk hgl hx HMQ
      have gX : Below wr.heap.size wr (wr.alloc (.cells (List.toArray [.int .i64 x.c, .int .i64 x.n, .int .i64 x.s, .int .i64 x.p, .int .i64 x.l, .int .i64 x.u, .int .i64 x.q]) 55)) := by go_grown
      have bX := Bl.new wr [.int .i64 x.c, .int .i64 x.n, .int .i64 x.s, .int .i64 x.p, .int .i64 x.l, .int .i64 x.u, .int .i64 x.q] 55
      obtain ⟨XB, hXB⟩ : ∃ XB, XB = wr.heap.size := ⟨_, rfl⟩
      obtain ⟨W1, hW1⟩ : ∃ W1, W1 = wr.alloc (.cells (List.toArray [.int .i64 x.c, .int .i64 x.n, .int .i64 x.s, .int .i64 x.p, .int .i64 x.l, .int .i64 x.u, .int .i64 x.q]) 55) := ⟨_, rfl⟩
      have hd : Bl w.heap.size [.int .i64 p, .int .i64 c, .int .i64 n, .int .i64 b, .int .i64 r, .int .i64 f, .int .i64 g, .slice (some ⟨gb, 0, none⟩) os.length cap] W1.drew ∧ Bl (w.heap.size + 1) [.int .i64 o.c, .int .i64 o.n, .int .i64 o.s, .int .i64 o.p, .int .i64 o.l, .int .i64 o.u, .int .i64 o.q] W1.drew ∧ Bl XB [.int .i64 x.c, .int .i64 x.n, .int .i64 x.s, .int .i64 x.p, .int .i64 x.l, .int .i64 x.u, .int .i64 x.q] W1.drew ∧ Below w.heap.size w W1.drew := by
        have hA0 := HR.out.1.below gX
        have hA1 := HR.out.2.1.below gX
        rw [hW1, hXB]
        exact ⟨hA0, hA1, bX, (Below.step HR.out.2.2 gX).drew⟩
      have HW1 := Lib.hid (And.intro hW1 hXB)
      clear gX bX hW1 hXB HR
      generalize rsum p c o (os.take k) = S at *
      generalize mq o x = Q at *
      go_wp2_with fail
      rw [← HW1.out.1, ← HW1.out.2]
      refine wp_region_held_drew (S := fun w' => Bl w.heap.size [.int .i64 p, .int .i64 c, .int .i64 n, .int .i64 b, .int .i64 r, .int .i64 f, .int .i64 g, .slice (some ⟨gb, 0, none⟩) os.length cap] w' ∧ Bl (w.heap.size + 1) [.int .i64 o.c, .int .i64 o.n, .int .i64 o.s, .int .i64 o.p, .int .i64 o.l, .int .i64 o.u, .int .i64 o.q] w' ∧ Bl XB [.int .i64 x.c, .int .i64 x.n, .int .i64 x.s, .int .i64 x.p, .int .i64 x.l, .int .i64 x.u, .int .i64 x.q] w' ∧ Below w.heap.size w w') (by kernel_rfl) hd (fun hHeld => ?_)
      refine wpAnyH_take (i := 0) (oi := { dst := some 15, op := Op.fieldAddr 29 (Operand.tmp 2) 0, type := 0, pos := "book.go:121", after := #[], guard := none }) (v := ?_) rfl (by as_aux_lemma => kernel_rfl) (by as_aux_lemma => kernel_rfl) (by as_aux_lemma => kernel_rfl) (fun _ _ _ h => h) (Or.inl ⟨by rfl, ?_⟩) (by assumption) ?_
      rotate_left
      · intro wq hSw
        go_simp
        try with_reducible rfl
      simp only [Act.put, List.setIfInBounds_toArray, List.set_cons_zero, List.set_cons_succ]
      refine wpAnyH_take (i := 1) (oi := { dst := some 16, op := Op.load 26 (Operand.tmp 15), type := 26, pos := "book.go:121", after := #[{ on := 0, ground := Ground.data }], guard := none }) (v := ?_) rfl (by as_aux_lemma => kernel_rfl) (by as_aux_lemma => kernel_rfl) (by as_aux_lemma => kernel_rfl) (fun _ _ _ h => h) (Or.inl ⟨by rfl, ?_⟩) (by assumption) ?_
      rotate_left
      · intro wq hSw
        have h0 := hSw.1.cell 0 _ rfl; have h1 := hSw.1.cell 1 _ rfl; have h2 := hSw.1.cell 2 _ rfl; have h3 := hSw.1.cell 3 _ rfl; have h4 := hSw.1.cell 4 _ rfl; have h5 := hSw.1.cell 5 _ rfl; have h6 := hSw.1.cell 6 _ rfl
        go_simp
        try with_reducible rfl
      simp only [Act.put, List.setIfInBounds_toArray, List.set_cons_zero, List.set_cons_succ]
      refine wpAnyH_take (i := 2) (oi := { dst := some 17, op := Op.fieldAddr 55 (Operand.tmp 7) 0, type := 0, pos := "book.go:121", after := #[], guard := none }) (v := ?_) rfl (by as_aux_lemma => kernel_rfl) (by as_aux_lemma => kernel_rfl) (by as_aux_lemma => kernel_rfl) (fun _ _ _ h => h) (Or.inl ⟨by rfl, ?_⟩) (by assumption) ?_
      rotate_left
      · intro wq hSw
        go_simp
        try with_reducible rfl
      simp only [Act.put, List.setIfInBounds_toArray, List.set_cons_zero, List.set_cons_succ]
      refine wpAnyH_take (i := 3) (oi := { dst := some 18, op := Op.load 3 (Operand.tmp 17), type := 3, pos := "book.go:121", after := #[{ on := 2, ground := Ground.data }], guard := none }) (v := ?_) rfl (by as_aux_lemma => kernel_rfl) (by as_aux_lemma => kernel_rfl) (by as_aux_lemma => kernel_rfl) (fun _ _ _ h => h) (Or.inl ⟨by rfl, ?_⟩) (by assumption) ?_
      rotate_left
      · intro wq hSw
        have h0 := hSw.2.2.1.cell 0 _ rfl
        go_simp
        try with_reducible rfl
      simp only [Act.put, List.setIfInBounds_toArray, List.set_cons_zero, List.set_cons_succ]
      refine wpAnyH_take (i := 5) (oi := { dst := some 20, op := Op.fieldAddr 29 (Operand.tmp 2) 0, type := 0, pos := "book.go:121", after := #[], guard := none }) (v := ?_) rfl (by as_aux_lemma => kernel_rfl) (by as_aux_lemma => kernel_rfl) (by as_aux_lemma => kernel_rfl) (fun _ _ _ h => h) (Or.inl ⟨by rfl, ?_⟩) (by assumption) ?_
      rotate_left
      · intro wq hSw
        go_simp
        try with_reducible rfl
      simp only [Act.put, List.setIfInBounds_toArray, List.set_cons_zero, List.set_cons_succ]
      refine wpAnyH_take (i := 6) (oi := { dst := some 21, op := Op.load 26 (Operand.tmp 20), type := 26, pos := "book.go:121", after := #[{ on := 5, ground := Ground.data }], guard := none }) (v := ?_) rfl (by as_aux_lemma => kernel_rfl) (by as_aux_lemma => kernel_rfl) (by as_aux_lemma => kernel_rfl) (fun _ _ _ h => h) (Or.inl ⟨by rfl, ?_⟩) (by assumption) ?_
      rotate_left
      · intro wq hSw
        have h0 := hSw.1.cell 0 _ rfl; have h1 := hSw.1.cell 1 _ rfl; have h2 := hSw.1.cell 2 _ rfl; have h3 := hSw.1.cell 3 _ rfl; have h4 := hSw.1.cell 4 _ rfl; have h5 := hSw.1.cell 5 _ rfl; have h6 := hSw.1.cell 6 _ rfl
        go_simp
        try with_reducible rfl
      simp only [Act.put, List.setIfInBounds_toArray, List.set_cons_zero, List.set_cons_succ]
      refine wpAnyH_take (i := 7) (oi := { dst := some 22, op := Op.fieldAddr 55 (Operand.tmp 3) 0, type := 0, pos := "book.go:121", after := #[], guard := none }) (v := ?_) rfl (by as_aux_lemma => kernel_rfl) (by as_aux_lemma => kernel_rfl) (by as_aux_lemma => kernel_rfl) (fun _ _ _ h => h) (Or.inl ⟨by rfl, ?_⟩) (by assumption) ?_
      rotate_left
      · intro wq hSw
        go_simp
        try with_reducible rfl
      simp only [Act.put, List.setIfInBounds_toArray, List.set_cons_zero, List.set_cons_succ]
      refine wpAnyH_take (i := 8) (oi := { dst := some 23, op := Op.load 3 (Operand.tmp 22), type := 3, pos := "book.go:121", after := #[{ on := 7, ground := Ground.data }], guard := none }) (v := ?_) rfl (by as_aux_lemma => kernel_rfl) (by as_aux_lemma => kernel_rfl) (by as_aux_lemma => kernel_rfl) (fun _ _ _ h => h) (Or.inl ⟨by rfl, ?_⟩) (by assumption) ?_
      rotate_left
      · intro wq hSw
        have h0 := hSw.2.1.cell 0 _ rfl
        go_simp
        try with_reducible rfl
      simp only [Act.put, List.setIfInBounds_toArray, List.set_cons_zero, List.set_cons_succ]
      refine wpAnyH_ready (rs := [4]) (by as_aux_lemma => kernel_rfl) (by simp) ?_
      refine AllReadyH.cons (o := { dst := some 19, op := Op.call { callee := Callee.value (Operand.func 31), args := #[Operand.tmp 16, Operand.tmp 18], argTypes := #[26, 3] }, type := 3, pos := "book.go:121", after := #[{ on := 1, ground := Ground.data }, { on := 3, ground := Ground.data }], guard := none }) rfl (fun K hK => ?_) AllReadyH.nil
      go_simp
      go_at_call 31
      refine (HOW.out _ _).mono ?_
      rintro ea1 wa1 ⟨rfl, hba⟩
      have hd1 : Bl w.heap.size [.int .i64 p, .int .i64 c, .int .i64 n, .int .i64 b, .int .i64 r, .int .i64 f, .int .i64 g, .slice (some ⟨gb, 0, none⟩) os.length cap] wa1 ∧ Bl (w.heap.size + 1) [.int .i64 o.c, .int .i64 o.n, .int .i64 o.s, .int .i64 o.p, .int .i64 o.l, .int .i64 o.u, .int .i64 o.q] wa1 ∧ Bl XB [.int .i64 x.c, .int .i64 x.n, .int .i64 x.s, .int .i64 x.p, .int .i64 x.l, .int .i64 x.u, .int .i64 x.q] wa1 ∧ Below w.heap.size w wa1 := ⟨hd.1.below hba, hd.2.1.below hba, hd.2.2.1.below hba, Below.step hd.2.2.2 hba⟩
      refine hK.out _ _ hd1 (fun hHeld => ?_)
      clear hK K hba
      try simp only [Act.put, List.setIfInBounds_toArray, List.set_cons_zero, List.set_cons_succ]
      refine wpAnyH_ready (rs := [9]) (by as_aux_lemma => kernel_rfl) (by simp) ?_
      refine AllReadyH.cons (o := { dst := some 24, op := Op.call { callee := Callee.value (Operand.func 31), args := #[Operand.tmp 21, Operand.tmp 23], argTypes := #[26, 3] }, type := 3, pos := "book.go:121", after := #[{ on := 6, ground := Ground.data }, { on := 8, ground := Ground.data }, { on := 4, ground := Ground.chain }], guard := none }) rfl (fun K hK => ?_) AllReadyH.nil
      go_simp
      go_at_call 31
      refine (HOW.out _ _).mono ?_
      rintro ea2 wa2 ⟨rfl, hba⟩
      have hd2 : Bl w.heap.size [.int .i64 p, .int .i64 c, .int .i64 n, .int .i64 b, .int .i64 r, .int .i64 f, .int .i64 g, .slice (some ⟨gb, 0, none⟩) os.length cap] wa2 ∧ Bl (w.heap.size + 1) [.int .i64 o.c, .int .i64 o.n, .int .i64 o.s, .int .i64 o.p, .int .i64 o.l, .int .i64 o.u, .int .i64 o.q] wa2 ∧ Bl XB [.int .i64 x.c, .int .i64 x.n, .int .i64 x.s, .int .i64 x.p, .int .i64 x.l, .int .i64 x.u, .int .i64 x.q] wa2 ∧ Below w.heap.size w wa2 := ⟨hd1.1.below hba, hd1.2.1.below hba, hd1.2.2.1.below hba, Below.step hd1.2.2.2 hba⟩
      refine hK.out _ _ hd2 (fun hHeld => ?_)
      clear hK K hba
      try simp only [Act.put, List.setIfInBounds_toArray, List.set_cons_zero, List.set_cons_succ]
      rcases hne : (ow p c x.c != ow p c o.c) with _ | _
      · refine wpAnyH_take (i := 10) (oi := { dst := some 25, op := Op.binOp BinOp.neq 3 (Operand.tmp 19) (Operand.tmp 24) 3, type := 4, pos := "book.go:121", after := #[{ on := 4, ground := Ground.data }, { on := 9, ground := Ground.data }], guard := none }) (v := .bool false) rfl (by as_aux_lemma => kernel_rfl) (by as_aux_lemma => kernel_rfl) (by as_aux_lemma => kernel_rfl) (fun _ _ _ h => h) (Or.inl ⟨by rfl, ?_⟩) (by assumption) ?_
        · intro wq hSw
          go_simp
          try with_reducible rfl
        simp only [Act.put, List.setIfInBounds_toArray, List.set_cons_zero, List.set_cons_succ]
        refine wpAnyH_done (by as_aux_lemma => kernel_rfl) ?_ _
        have heq : ow p c x.c = ow p c o.c := by simpa using hne
        have HE := Lib.hid heq
        have HD := Lib.hid hd2
        clear hne heq
        clear hd hd1 hd2 hHeld
        go_wp2_with fail
        go_roundw
        case rel => exact ⟨k + 1, Hk.out, by go_num, by rw [HSC.out, if_pos HE.out]; simp, Lib.hid ⟨HD.out.1, HD.out.2.1, HD.out.2.2.2⟩⟩
        case measure => have := Hk.out; simp [intOf]; omega
      · refine wpAnyH_take (i := 10) (oi := { dst := some 25, op := Op.binOp BinOp.neq 3 (Operand.tmp 19) (Operand.tmp 24) 3, type := 4, pos := "book.go:121", after := #[{ on := 4, ground := Ground.data }, { on := 9, ground := Ground.data }], guard := none }) (v := .bool true) rfl (by as_aux_lemma => kernel_rfl) (by as_aux_lemma => kernel_rfl) (by as_aux_lemma => kernel_rfl) (fun _ _ _ h => h) (Or.inl ⟨by rfl, ?_⟩) (by assumption) ?_
        · intro wq hSw
          go_simp
          try with_reducible rfl
        simp only [Act.put, List.setIfInBounds_toArray, List.set_cons_zero, List.set_cons_succ]
        refine wpAnyH_done (by as_aux_lemma => kernel_rfl) ?_ _
        have heq : ¬ ow p c x.c = ow p c o.c := by simpa using hne
        have HE := Lib.hid heq
        have HD := Lib.hid hd2
        clear hne heq
        have x0 := hd2.2.2.1.cell 0 _ rfl
        have x1 := hd2.2.2.1.cell 1 _ rfl
        have x2 := hd2.2.2.1.cell 2 _ rfl
        have x3 := hd2.2.2.1.cell 3 _ rfl
        have x4 := hd2.2.2.1.cell 4 _ rfl
        have x5 := hd2.2.2.1.cell 5 _ rfl
        have x6 := hd2.2.2.1.cell 6 _ rfl
        have o0 := hd2.2.1.cell 0 _ rfl
        have o1 := hd2.2.1.cell 1 _ rfl
        have o2 := hd2.2.1.cell 2 _ rfl
        have o3 := hd2.2.1.cell 3 _ rfl
        have o4 := hd2.2.1.cell 4 _ rfl
        have o5 := hd2.2.1.cell 5 _ rfl
        have o6 := hd2.2.1.cell 6 _ rfl
        clear hd hd1 hd2 hHeld
        go_wp2_with fail
        refine (HM1.out _).mono ?_
        rintro e3 w3 ⟨rfl, hb3⟩
        have HD3 := Lib.hid (And.intro (HD.out.1.below hb3) (And.intro (HD.out.2.1.below hb3) (Below.step HD.out.2.2.2 hb3)))
        have hfd : ∀ w, (Instr.field 80 (.agg #[.int .i64 Q, .int .i64 PX]) 0).run Try.prog w = .ok (.int .i64 Q) w := fun _ => by kernel_rfl
        clear hb3
        go_wp2_with fail
        go_roundw
        case rel => exact ⟨k + 1, Hk.out, by go_num, by rw [HSC.out, if_neg HE.out], Lib.hid HD3.out⟩
        case measure => have := Hk.out; simp [intOf]; omega
    · have hke : k = os.length := by omega
      subst hke
      rw [List.take_length] at s1 s2 ⊢
      have o6 := HR.out.2.1.cell 6 _ rfl
      have HB := Lib.hid HR.out.2.2
      obtain ⟨S, hS⟩ : ∃ S, S = rsum p c o os := ⟨_, rfl⟩
      have hr : rch p c o os = max 0 (min S o.q) := by rw [hS]; rfl
      have HRR := Lib.hid hr
      rw [← hS] at s1 s2 ⊢
      clear HR hk hlt hS hr
      go_wp2_with fail
      go_ret
      exact ⟨by rw [HRR.out]; rfl, HB.out⟩
end Go.Proofs.Ytafignfoejefjaa

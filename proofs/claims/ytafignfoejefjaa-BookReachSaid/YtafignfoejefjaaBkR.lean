/-
  Shards, Shard and Band of the rules; Best and Spread of a book.
-/
import Derived.Test.YtafignfoejefjaaRows
import Derived.Test.YtafignfoejefjaaKit
import Derived.Test.YtafignfoejefjaaApp
import Derived.Test.YtafignfoejefjaaQuiet
import Derived.WalkKit
import Derived.ProofKit
import Derived.OpenShut
import Derived.ShutString
import Derived.Below
import Derived.Outline
import Derived.WalkLawsBesides
import Derived.WalkSpells
import Derived.Handy
import Derived.Deep.QuietTactic
import Derived.BigQuiet
import Derived.RegionTactic
import Derived.ChangeAlike
import Derived.Lib.Hide
import Derived.Laws.Rows
import Derived.Laws.Tables
import Derived.Laws.CopyOwn
import Derived.Laws.MakeOwn
import Derived.Laws.Entries
import Derived.Laws.OwnMore
import Derived.Deep.WholeRow
import Derived.Deep.LoopGhost
import Derived.Deep.AppendLies
import Derived.Deep.Draws
import Derived.Maps.AppendAt
import Derived.OwnWalk
import Derived.Deep.RegionHeld3
import Derived.Deep.Cut
import Derived.Deep.CutRange
import Derived.Deep.DeepCutAuto
import Derived.Deep.CutBlock
import Derived.Lib.SliceRun
import Derived.IntWalk
import Derived.Test.YtafignfoejefjaaBkM
import Derived.Test.YtafignfoejefjaaBkO
import Derived.Test.YtafignfoejefjaaBkP
import Derived.Test.YtafignfoejefjaaBkQ
import Derived.Test.YtafignfoejefjaaBkL
namespace Go.Proofs.Ytafignfoejefjaa
open Go.ChangeShapes Go.WideShapes Go.ChangeAt Go.RowKit
theorem mul12 {n b : Int} (hn : 1 ≤ n ∧ n ≤ 3) (hb : 1 ≤ b ∧ b ≤ 4) : 1 ≤ n * b ∧ n * b ≤ 12 := by
  obtain ⟨h1, h2⟩ := hb
  rcases (show b = 1 ∨ b = 2 ∨ b = 3 ∨ b = 4 by omega) with rfl | rfl | rfl | rfl <;> omega
set_option maxHeartbeats 1000000 in
theorem shards_is (p c n b r f g : Int) (hn : 1 ≤ n ∧ n ≤ 3) (hb : 1 ≤ b ∧ b ≤ 4) (w : World) : Calls Try.prog 21 #[.agg #[.int .i64 p, .int .i64 c, .int .i64 n, .int .i64 b, .int .i64 r, .int .i64 f, .int .i64 g]] w fun e w' => e = .returned (.int .i64 (n * b)) ∧ Below w.heap.size w w' := by
  obtain ⟨m0, m1⟩ := mul12 hn hb
  clear hn hb
  go_enter Try.func21, Try.ntmps21
  go_wp2
  go_ret
  exact ⟨rfl, by go_grown⟩
set_option maxHeartbeats 1000000 in
theorem rsh_in (p c n b r f g : Int) (x y : Int) (w : World) (x0 : 0 ≤ x) (x1 : x < n) (y0 : 0 ≤ y) (y1 : y < b) (hb : b ≤ 4) (hn : n ≤ 3) : Calls Try.prog 40 #[.agg #[.int .i64 p, .int .i64 c, .int .i64 n, .int .i64 b, .int .i64 r, .int .i64 f, .int .i64 g], .int .i64 x, .int .i64 y] w fun e w' => e = .returned (.int .i64 (x * b + y)) ∧ Below w.heap.size w w' := by
  have m0 : 0 ≤ x * b := Int.mul_nonneg x0 (by omega)
  have m1 : x * b ≤ 24 := by rcases (show b = 1 ∨ b = 2 ∨ b = 3 ∨ b = 4 by omega) with rfl | rfl | rfl | rfl <;> omega
  clear hn
  go_enter Try.func40, Try.ntmps40
  go_wp2
  go_ret
  exact ⟨rfl, by go_grown⟩
set_option maxHeartbeats 1000000 in
theorem rsh_out (p c n b r f g : Int) (x y : Int) (w : World) (h : ¬ (0 ≤ x ∧ x < n)) : Calls Try.prog 40 #[.agg #[.int .i64 p, .int .i64 c, .int .i64 n, .int .i64 b, .int .i64 r, .int .i64 f, .int .i64 g], .int .i64 x, .int .i64 y] w fun e w' => e = .returned (.int .i64 (-1)) ∧ Below w.heap.size w w' := by
  by_cases h0 : x < 0
  · have hd : decide (0 ≤ x) = false := decide_eq_false (by omega)
    clear h
    go_enter Try.func40, Try.ntmps40
    go_wp2
    go_ret
    exact ⟨rfl, by go_grown⟩
  · have q0 : 0 ≤ x := by omega
    have hd : decide (x < n) = false := decide_eq_false (by omega)
    clear h
    go_enter Try.func40, Try.ntmps40
    go_wp2
    go_ret
    exact ⟨rfl, by go_grown⟩
set_option maxHeartbeats 1000000 in
theorem band_is (p c n b r f g : Int) (x : Int) (h3 : 1 ≤ b) (h4 : b ≤ 4) (x0 : 1 ≤ x) (x1 : x ≤ 9999) (w : World) : Calls Try.prog 41 #[.agg #[.int .i64 p, .int .i64 c, .int .i64 n, .int .i64 b, .int .i64 r, .int .i64 f, .int .i64 g], .int .i64 x] w fun e w' => e = .returned (.int .i64 ((x - 1) * b / 9999)) ∧ Below w.heap.size w w' := by
  have m0 : 0 ≤ (x - 1) * b := by rcases (show b = 1 ∨ b = 2 ∨ b = 3 ∨ b = 4 by omega) with rfl | rfl | rfl | rfl <;> omega
  have m1 : (x - 1) * b ≤ 40000 := by rcases (show b = 1 ∨ b = 2 ∨ b = 3 ∨ b = 4 by omega) with rfl | rfl | rfl | rfl <;> omega
  go_enter Try.func41, Try.ntmps41
  go_wp2
  go_ret
  exact ⟨rfl, by go_grown⟩
theorem band_num {x b : Int} (h1 : 1 ≤ b) (h2 : b ≤ 4) (x1 : 1 ≤ x) (x2 : x ≤ 9999) : 0 ≤ (x - 1) * b / 9999 ∧ (x - 1) * b / 9999 < b := by
  rcases (show b = 1 ∨ b = 2 ∨ b = 3 ∨ b = 4 by omega) with rfl | rfl | rfl | rfl <;> omega
/-- The shard of a name and a price. -/
def sh (n b x y : Int) : Int := if 0 ≤ x ∧ x < n then x * b + (y - 1) * b / 9999 else -1
set_option maxHeartbeats 1000000 in
theorem tsh_is (p c n b r f g : Int) (tn ts tp tl tu : Int) (hn : 1 ≤ n ∧ n ≤ 3) (hb : 1 ≤ b ∧ b ≤ 4) (x0 : 1 ≤ tp) (x1 : tp ≤ 9999) (w : World) : Calls Try.prog 27 #[.agg #[.int .i64 p, .int .i64 c, .int .i64 n, .int .i64 b, .int .i64 r, .int .i64 f, .int .i64 g], .agg #[.int .i64 tn, .int .i64 ts, .int .i64 tp, .int .i64 tl, .int .i64 tu]] w fun e w' => e = .returned (.int .i64 (sh n b tn tp)) ∧ Below w.heap.size w w' := by
  have HB := Lib.hid (fun W => band_is p c n b r f g tp hb.1 hb.2 x0 x1 W)
  have hbn := band_num hb.1 hb.2 x0 x1
  have HS : Hid (∀ W, Calls Try.prog 40 #[.agg #[.int .i64 p, .int .i64 c, .int .i64 n, .int .i64 b, .int .i64 r, .int .i64 f, .int .i64 g], .int .i64 tn, .int .i64 ((tp - 1) * b / 9999)] W fun e w' => e = .returned (.int .i64 (sh n b tn tp)) ∧ Below W.heap.size W w') := by
    refine Lib.hid fun W => ?_
    by_cases h : 0 ≤ tn ∧ tn < n
    · unfold sh; rw [if_pos h]
      exact rsh_in p c n b r f g tn _ W h.1 h.2 hbn.1 hbn.2 hb.2 hn.2
    · unfold sh; rw [if_neg h]
      exact rsh_out p c n b r f g tn _ W h
  clear hn hb x0 x1 hbn
  generalize sh n b tn tp = S at *
  generalize (tp - 1) * b / 9999 = V at *
  go_enter Try.func27, Try.ntmps27
  go_wp2_with fail
  have b2 := (Bl.new w [.int .i64 p, .int .i64 c, .int .i64 n, .int .i64 b, .int .i64 r, .int .i64 f, .int .i64 g] 26).below (w' := (w.alloc (.cells (List.toArray [.int .i64 p, .int .i64 c, .int .i64 n, .int .i64 b, .int .i64 r, .int .i64 f, .int .i64 g]) 26)).alloc (.cells (List.toArray [.int .i64 tn, .int .i64 ts, .int .i64 tp, .int .i64 tl, .int .i64 tu]) 48)) (by go_grown)
  have b3 := Bl.new (w.alloc (.cells (List.toArray [.int .i64 p, .int .i64 c, .int .i64 n, .int .i64 b, .int .i64 r, .int .i64 f, .int .i64 g]) 26)) [.int .i64 tn, .int .i64 ts, .int .i64 tp, .int .i64 tl, .int .i64 tu] 48
  rw [World.size_alloc] at b3
  have hB : Below w.heap.size w ((w.alloc (.cells (List.toArray [.int .i64 p, .int .i64 c, .int .i64 n, .int .i64 b, .int .i64 r, .int .i64 f, .int .i64 g]) 26)).alloc (.cells (List.toArray [.int .i64 tn, .int .i64 ts, .int .i64 tp, .int .i64 tl, .int .i64 tu]) 48)) := by go_grown
  obtain ⟨W, hW⟩ : ∃ W, W = ((w.alloc (.cells (List.toArray [.int .i64 p, .int .i64 c, .int .i64 n, .int .i64 b, .int .i64 r, .int .i64 f, .int .i64 g]) 26)).alloc (.cells (List.toArray [.int .i64 tn, .int .i64 ts, .int .i64 tp, .int .i64 tl, .int .i64 tu]) 48)) := ⟨_, rfl⟩
  rw [← hW] at b2 b3 hB ⊢
  clear hW
  have HB0 := Lib.hid hB
  have hd : Bl w.heap.size [.int .i64 p, .int .i64 c, .int .i64 n, .int .i64 b, .int .i64 r, .int .i64 f, .int .i64 g] W.drew ∧ Bl (w.heap.size + 1) [.int .i64 tn, .int .i64 ts, .int .i64 tp, .int .i64 tl, .int .i64 tu] W.drew ∧ Below w.heap.size w W.drew := ⟨b2, b3, hB.drew⟩
  clear b2 b3 hB
  refine wp_region_held_drew (S := fun w' => Bl w.heap.size [.int .i64 p, .int .i64 c, .int .i64 n, .int .i64 b, .int .i64 r, .int .i64 f, .int .i64 g] w' ∧ Bl (w.heap.size + 1) [.int .i64 tn, .int .i64 ts, .int .i64 tp, .int .i64 tl, .int .i64 tu] w' ∧ Below w.heap.size w w') (by kernel_rfl) hd (fun hHeld => ?_)
  refine wpAnyH_take (i := 0) (oi := { dst := some 5, op := Op.load 26 (Operand.tmp 2), type := 26, pos := "terms.go:48", after := #[], guard := none }) (v := ?_) rfl (by as_aux_lemma => kernel_rfl) (by as_aux_lemma => kernel_rfl) (by as_aux_lemma => kernel_rfl) (fun _ _ _ h => h) (Or.inl ⟨by rfl, ?_⟩) (by assumption) ?_
  rotate_left
  · intro wq hSw
    have h0 := hSw.1.cell 0 _ rfl; have h1 := hSw.1.cell 1 _ rfl; have h2 := hSw.1.cell 2 _ rfl; have h3 := hSw.1.cell 3 _ rfl; have h4 := hSw.1.cell 4 _ rfl; have h5 := hSw.1.cell 5 _ rfl; have h6 := hSw.1.cell 6 _ rfl
    go_simp
    try with_reducible rfl
  simp only [Act.put, List.setIfInBounds_toArray, List.set_cons_zero, List.set_cons_succ]
  refine wpAnyH_take (i := 1) (oi := { dst := some 6, op := Op.fieldAddr 48 (Operand.tmp 3) 0, type := 0, pos := "terms.go:48", after := #[], guard := none }) (v := ?_) rfl (by as_aux_lemma => kernel_rfl) (by as_aux_lemma => kernel_rfl) (by as_aux_lemma => kernel_rfl) (fun _ _ _ h => h) (Or.inl ⟨by rfl, ?_⟩) (by assumption) ?_
  rotate_left
  · intro wq hSw
    go_simp
    try with_reducible rfl
  simp only [Act.put, List.setIfInBounds_toArray, List.set_cons_zero, List.set_cons_succ]
  refine wpAnyH_take (i := 2) (oi := { dst := some 7, op := Op.load 3 (Operand.tmp 6), type := 3, pos := "terms.go:48", after := #[{ on := 1, ground := Ground.data }], guard := none }) (v := ?_) rfl (by as_aux_lemma => kernel_rfl) (by as_aux_lemma => kernel_rfl) (by as_aux_lemma => kernel_rfl) (fun _ _ _ h => h) (Or.inl ⟨by rfl, ?_⟩) (by assumption) ?_
  rotate_left
  · intro wq hSw
    have h0 := hSw.2.1.cell 0 _ rfl; have h1 := hSw.2.1.cell 1 _ rfl; have h2 := hSw.2.1.cell 2 _ rfl
    go_simp
    try with_reducible rfl
  simp only [Act.put, List.setIfInBounds_toArray, List.set_cons_zero, List.set_cons_succ]
  refine wpAnyH_take (i := 3) (oi := { dst := some 8, op := Op.load 26 (Operand.tmp 2), type := 26, pos := "terms.go:48", after := #[], guard := none }) (v := ?_) rfl (by as_aux_lemma => kernel_rfl) (by as_aux_lemma => kernel_rfl) (by as_aux_lemma => kernel_rfl) (fun _ _ _ h => h) (Or.inl ⟨by rfl, ?_⟩) (by assumption) ?_
  rotate_left
  · intro wq hSw
    have h0 := hSw.1.cell 0 _ rfl; have h1 := hSw.1.cell 1 _ rfl; have h2 := hSw.1.cell 2 _ rfl; have h3 := hSw.1.cell 3 _ rfl; have h4 := hSw.1.cell 4 _ rfl; have h5 := hSw.1.cell 5 _ rfl; have h6 := hSw.1.cell 6 _ rfl
    go_simp
    try with_reducible rfl
  simp only [Act.put, List.setIfInBounds_toArray, List.set_cons_zero, List.set_cons_succ]
  refine wpAnyH_take (i := 4) (oi := { dst := some 9, op := Op.fieldAddr 48 (Operand.tmp 3) 2, type := 0, pos := "terms.go:48", after := #[], guard := none }) (v := ?_) rfl (by as_aux_lemma => kernel_rfl) (by as_aux_lemma => kernel_rfl) (by as_aux_lemma => kernel_rfl) (fun _ _ _ h => h) (Or.inl ⟨by rfl, ?_⟩) (by assumption) ?_
  rotate_left
  · intro wq hSw
    go_simp
    try with_reducible rfl
  simp only [Act.put, List.setIfInBounds_toArray, List.set_cons_zero, List.set_cons_succ]
  refine wpAnyH_take (i := 5) (oi := { dst := some 10, op := Op.load 3 (Operand.tmp 9), type := 3, pos := "terms.go:48", after := #[{ on := 4, ground := Ground.data }], guard := none }) (v := ?_) rfl (by as_aux_lemma => kernel_rfl) (by as_aux_lemma => kernel_rfl) (by as_aux_lemma => kernel_rfl) (fun _ _ _ h => h) (Or.inl ⟨by rfl, ?_⟩) (by assumption) ?_
  rotate_left
  · intro wq hSw
    have h0 := hSw.2.1.cell 0 _ rfl; have h1 := hSw.2.1.cell 1 _ rfl; have h2 := hSw.2.1.cell 2 _ rfl
    go_simp
    try with_reducible rfl
  simp only [Act.put, List.setIfInBounds_toArray, List.set_cons_zero, List.set_cons_succ]
  refine wpAnyH_ready (rs := [6]) (by as_aux_lemma => kernel_rfl) (by simp) ?_
  refine AllReadyH.cons (o := { dst := some 11, op := Op.call { callee := Callee.value (Operand.func 41), args := #[Operand.tmp 8, Operand.tmp 10], argTypes := #[26, 3] }, type := 3, pos := "terms.go:48", after := #[{ on := 3, ground := Ground.data }, { on := 5, ground := Ground.data }], guard := none }) rfl (fun K hK => ?_) AllReadyH.nil
  go_simp
  go_at_call 41
  refine (HB.out _).mono ?_
  rintro e1 w1 ⟨rfl, hb1⟩
  have hd1 : Bl w.heap.size [.int .i64 p, .int .i64 c, .int .i64 n, .int .i64 b, .int .i64 r, .int .i64 f, .int .i64 g] w1 ∧ Bl (w.heap.size + 1) [.int .i64 tn, .int .i64 ts, .int .i64 tp, .int .i64 tl, .int .i64 tu] w1 ∧ Below w.heap.size w w1 := ⟨hd.1.below hb1, hd.2.1.below hb1, Below.step hd.2.2 hb1⟩
  refine hK.out _ _ hd1 (fun hHeld => ?_)
  clear hK K hb1
  try simp only [Act.put, List.setIfInBounds_toArray, List.set_cons_zero, List.set_cons_succ]
  refine wpAnyH_ready (rs := [7]) (by as_aux_lemma => kernel_rfl) (by simp) ?_
  refine AllReadyH.cons (o := { dst := some 12, op := Op.call { callee := Callee.value (Operand.func 40), args := #[Operand.tmp 5, Operand.tmp 7, Operand.tmp 11], argTypes := #[26, 3, 3] }, type := 3, pos := "terms.go:48", after := #[{ on := 0, ground := Ground.data }, { on := 2, ground := Ground.data }, { on := 6, ground := Ground.data }, { on := 6, ground := Ground.chain }], guard := none }) rfl (fun K hK => ?_) AllReadyH.nil
  go_simp
  go_at_call 40
  refine (HS.out _).mono ?_
  rintro e2 w2 ⟨rfl, hb2⟩
  have hd2 : Bl w.heap.size [.int .i64 p, .int .i64 c, .int .i64 n, .int .i64 b, .int .i64 r, .int .i64 f, .int .i64 g] w2 ∧ Bl (w.heap.size + 1) [.int .i64 tn, .int .i64 ts, .int .i64 tp, .int .i64 tl, .int .i64 tu] w2 ∧ Below w.heap.size w w2 := ⟨hd1.1.below hb2, hd1.2.1.below hb2, Below.step hd1.2.2 hb2⟩
  have HD2 := Lib.hid hd2.2.2
  refine hK.out _ _ hd2 (fun hHeld => ?_)
  clear hK K hb2
  try simp only [Act.put, List.setIfInBounds_toArray, List.set_cons_zero, List.set_cons_succ]
  refine wpAnyH_take (i := 8) (oi := { dst := some 4, op := Op.assign (Operand.tmp 12), type := 3, pos := "terms.go:48", after := #[{ on := 7, ground := Ground.data }, { on := 7, ground := Ground.chain }, { on := 0, ground := Ground.phase }, { on := 1, ground := Ground.phase }, { on := 2, ground := Ground.phase }, { on := 3, ground := Ground.phase }, { on := 4, ground := Ground.phase }, { on := 5, ground := Ground.phase }, { on := 6, ground := Ground.phase }, { on := 7, ground := Ground.phase }], guard := none }) (v := ?_) rfl (by as_aux_lemma => kernel_rfl) (by as_aux_lemma => kernel_rfl) (by as_aux_lemma => kernel_rfl) (fun _ _ _ h => h) (Or.inl ⟨by rfl, ?_⟩) (by assumption) ?_
  rotate_left
  · intro wq hSw
    go_simp
    try with_reducible rfl
  simp only [Act.put, List.setIfInBounds_toArray, List.set_cons_zero, List.set_cons_succ]
  refine wpAnyH_done (by as_aux_lemma => kernel_rfl) ?_ _
  go_wp2_with fail
  go_ret
  exact ⟨rfl, HD2.out⟩
def bp : List Lvl → Int
  | [] => 0
  | x :: _ => x.p
def bk : List Lvl → Bool
  | [] => false
  | _ :: _ => true
set_option maxHeartbeats 1000000 in
theorem best_is (p c b2 b r f g : Int) (base cap : Nat) (A : Option Addr) (m : Nat) (os : List Ord) (n s : Int) (w : World) (hm : m = os.length) (h : w.ownsRow base 55 7 (.slice A m cap) m (ov os)) (hl : os.length ≤ 40) (hF : Fine os) : Calls Try.prog 10 #[.agg #[.int .i64 p, .int .i64 c, .int .i64 b2, .int .i64 b, .int .i64 r, .int .i64 f, .int .i64 g, .slice A m cap], .int .i64 n, .int .i64 s] w fun e w' => ∃ ls : List Lvl, e = .returned (.tuple #[.int .i64 (bp ls), .bool (bk ls)]) ∧ LvIs os n s ls ∧ Below w.heap.size w w' := by
  have HC := Lib.hid (fun (W : World) (hb : Below w.heap.size w W) => levels_is p c b2 b r f g base cap A m os n s W hm (rkept h hb) hl hF)
  clear hm h hl hF
  go_enter Try.func10, Try.ntmps10
  go_wp2_with fail
  have hB : Below w.heap.size w (w.alloc (.cells (List.toArray [.int .i64 p, .int .i64 c, .int .i64 b2, .int .i64 b, .int .i64 r, .int .i64 f, .int .i64 g, .slice A m cap]) 29)) := by go_grown
  refine (HC.out _ hB).mono ?_
  rintro e w1 ⟨v, ls, rfl, hls, ho, hl, hb⟩
  have HB := Lib.hid (Below.step hB hb)
  have HS := Lib.hid hls
  clear hls hb hB
  rcases ls with _ | ⟨x, t⟩
  · obtain ⟨A2, c2, rfl⟩ := oshape ho
    clear ho hl
    go_wp2_with fail
    go_ret2
    exact ⟨[], rfl, HS.out, HB.out⟩
  · obtain ⟨g1, c2, rfl, _, _⟩ := own_some ho (by simp)
    have hx : w1.cell? ⟨g1, 0, none⟩ = some (.int .i64 x.p) := vrow_cell (k := 0) (j := 0) ho (x := x) rfl (by simp) (by omega) rfl
    have hn : ((x :: t).length : Int) ≤ 40 := by omega
    have hn0 : (0 : Int) < ((x :: t).length : Int) := by simp
    have hn1 : (((x :: t).length : Int) == 0) = false := by rw [beq_eq_false_iff_ne]; omega
    have hn2 : 0 < (x :: t).length := by simp
    clear ho hl
    generalize (x :: t).length = L at *
    go_wp2_with fail
    go_ret2
    exact ⟨x :: t, rfl, HS.out, HB.out⟩
end Go.Proofs.Ytafignfoejefjaa

/-
  Texts of the machine of pairs, part 29.
-/
import Derived.Test.YtmjkhefgpobinaaM1
import Derived.Test.YtmjkhefgpobinaaM2
import Derived.Test.YtmjkhefgpobinaaM27
import Derived.Test.YtmjkhefgpobinaaM28
namespace Go.Proofs.Ytmjkhefgpobinaa
open Go.ChangeShapes Go.WideShapes Go.ChangeAt Go.RowKit
/-- A block whose cells and type are known. -/
def BT (g : Nat) (t : TypeId) (l : List Value) (w : World) : Prop := w.heap[g]? = some (.cells l.toArray t (0, 0))
theorem BT.bl {g : Nat} {t : TypeId} {l : List Value} {w : World} (h : BT g t l w) : Bl g l w := ⟨t, h⟩
theorem BT.below {g : Nat} {t : TypeId} {l : List Value} {w w' : World} (h : BT g t l w) (hb : Below w.heap.size w w') : BT g t l w' := (hb.block g (blk_lt h)).trans h
theorem BT.new (w : World) (cs : List Value) (t : TypeId) : BT w.heap.size t cs (w.alloc (.cells cs.toArray t)) := heap_alloc_new w (.cells cs.toArray t)
theorem BT.set {g : Nat} {t : TypeId} {l : List Value} {w : World} (h : BT g t l w) (j : Nat) (u : Value) : BT g t (l.set j u) (w.setCell ⟨g, j, none⟩ u) := by
  have := blk_set h j u
  unfold BT
  rw [this]
  simp
theorem BT.far {g : Nat} {t : TypeId} {l : List Value} {w : World} (h : BT g t l w) {p : Addr} (hne : p.block ≠ g) (u : Value) : BT g t l (w.setCell p u) := (Below.heap_setCell w p u g (Ne.symm hne)).trans h
theorem BT.grown {g : Nat} {t : TypeId} {l : List Value} {w w' : World} {rw_ : Option Nat} (h : BT g t l w) (hg : w.grownBy w' rw_) (hne : rw_ ≠ some g) : BT g t l w' := (hg.block g (blk_lt h) (fun e => hne e.symm)).trans h
theorem own_ne {w : World} {base : Nat} {e : TypeId} {size n : Nat} {v : Value} {xs : List Value} (h : w.ownsRow base e size v n xs) {g : Nat} {t : TypeId} {cs : Array Value} (hb : w.heap[g]? = some (.cells cs t (0, 0))) (hte : t ≠ e) : v.ownBlock ≠ some g := by
  rcases h.2 with ⟨rfl, _⟩ | ⟨g', cap, cur, rfl, _, hg, _⟩
  · intro hh; exact absurd hh (by simp [Value.ownBlock])
  · intro hh
    have : g' = g := by simpa [Value.ownBlock] using hh
    subst this
    rw [hb] at hg
    injection hg with hg
    injection hg with _ h2 _
    exact hte h2
theorem ne_ty {w : World} {a b : Nat} {c1 c2 : Array Value} {t1 t2 : TypeId} (h1 : w.heap[a]? = some (.cells c1 t1 (0, 0))) (h2 : w.heap[b]? = some (.cells c2 t2 (0, 0))) (ht : t1 ≠ t2) : a ≠ b := fun e => by
  subst e
  rw [h1] at h2
  injection h2 with h2
  injection h2 with _ h2 _
  exact ht h2
/-- Cells of states, of terms. -/
def SRow (SB A : Nat) (S : Nat → Cs) (w : World) : Prop := ∃ cs, w.heap[SB]? = some (.cells cs 42 (0, 0)) ∧ ∀ i, i < A → cs[i * 5]? = some (.int .i64 (S i).kind) ∧ cs[i * 5 + 1]? = some (.bool (S i).flag) ∧ cs[i * 5 + 2]? = some (.int .i64 (S i).gen) ∧ cs[i * 5 + 3]? = some (.int .i64 (S i).left) ∧ cs[i * 5 + 4]? = some (.int .i64 (S i).fills)
def TRow (TB A : Nat) (T : Nat → Tm5) (w : World) : Prop := ∃ cs, w.heap[TB]? = some (.cells cs 44 (0, 0)) ∧ ∀ i, i < A → cs[i * 5]? = some (.int .i64 (T i).n) ∧ cs[i * 5 + 1]? = some (.int .i64 (T i).s) ∧ cs[i * 5 + 2]? = some (.int .i64 (T i).p) ∧ cs[i * 5 + 3]? = some (.int .i64 (T i).l) ∧ cs[i * 5 + 4]? = some (.int .i64 (T i).u)
theorem SRow.keep {SB A : Nat} {S : Nat → Cs} {w w' : World} (h : SRow SB A S w) (hk : w'.heap[SB]? = w.heap[SB]?) : SRow SB A S w' := by
  obtain ⟨cs, h1, h2⟩ := h; exact ⟨cs, hk.trans h1, h2⟩
theorem TRow.keep {TB A : Nat} {T : Nat → Tm5} {w w' : World} (h : TRow TB A T w) (hk : w'.heap[TB]? = w.heap[TB]?) : TRow TB A T w' := by
  obtain ⟨cs, h1, h2⟩ := h; exact ⟨cs, hk.trans h1, h2⟩
theorem SRow.lt {SB A : Nat} {S : Nat → Cs} {w : World} (h : SRow SB A S w) : SB < w.heap.size := by obtain ⟨cs, h1, _⟩ := h; exact blk_lt h1
theorem TRow.lt {TB A : Nat} {T : Nat → Tm5} {w : World} (h : TRow TB A T w) : TB < w.heap.size := by obtain ⟨cs, h1, _⟩ := h; exact blk_lt h1
theorem SRow.below {SB A : Nat} {S : Nat → Cs} {w w' : World} (h : SRow SB A S w) (hb : Below w.heap.size w w') : SRow SB A S w' := h.keep (hb.block SB h.lt)
theorem TRow.below {TB A : Nat} {T : Nat → Tm5} {w w' : World} (h : TRow TB A T w) (hb : Below w.heap.size w w') : TRow TB A T w' := h.keep (hb.block TB h.lt)
theorem made_cell (z : Array Value) (n k : Nat) (hk : k < n) : (madeCells z n)[k]? = some z[k % z.size]! := by
  unfold madeCells
  rw [Array.getElem?_map, Array.getElem?_range]
  simp [hk]
def S0 : Cs := ⟨0, false, 0, 0, 0⟩
def T0 : Tm5 := ⟨0, 0, 0, 0, 0⟩
theorem srow_new (A : Nat) (w : World) : SRow w.heap.size A (fun _ => S0) (w.alloc (.cells (madeCells #[.int .i64 0, .bool false, .int .i64 0, .int .i64 0, .int .i64 0] (A * 5)) 42)) := by
  refine ⟨_, heap_alloc_new w _, fun i hi => ?_⟩
  have m : ∀ j, j < 5 → (i * 5 + j) % 5 = j := fun j hj => by omega
  refine ⟨?_, ?_, ?_, ?_, ?_⟩
  · rw [made_cell _ _ _ (by omega)]; have := m 0 (by omega); rw [Nat.add_zero] at this; simp only [List.size_toArray, List.length_cons, List.length_nil, Nat.reduceAdd, this]; rfl
  · rw [made_cell _ _ _ (by omega)]; have := m 1 (by omega); simp only [List.size_toArray, List.length_cons, List.length_nil, Nat.reduceAdd, this]; rfl
  · rw [made_cell _ _ _ (by omega)]; have := m 2 (by omega); simp only [List.size_toArray, List.length_cons, List.length_nil, Nat.reduceAdd, this]; rfl
  · rw [made_cell _ _ _ (by omega)]; have := m 3 (by omega); simp only [List.size_toArray, List.length_cons, List.length_nil, Nat.reduceAdd, this]; rfl
  · rw [made_cell _ _ _ (by omega)]; have := m 4 (by omega); simp only [List.size_toArray, List.length_cons, List.length_nil, Nat.reduceAdd, this]; rfl
theorem trow_new (A : Nat) (w : World) : TRow w.heap.size A (fun _ => T0) (w.alloc (.cells (madeCells #[.int .i64 0, .int .i64 0, .int .i64 0, .int .i64 0, .int .i64 0] (A * 5)) 44)) := by
  refine ⟨_, heap_alloc_new w _, fun i hi => ?_⟩
  have m : ∀ j, j < 5 → (i * 5 + j) % 5 = j := fun j hj => by omega
  refine ⟨?_, ?_, ?_, ?_, ?_⟩
  · rw [made_cell _ _ _ (by omega)]; have := m 0 (by omega); rw [Nat.add_zero] at this; simp only [List.size_toArray, List.length_cons, List.length_nil, Nat.reduceAdd, this]; rfl
  · rw [made_cell _ _ _ (by omega)]; have := m 1 (by omega); simp only [List.size_toArray, List.length_cons, List.length_nil, Nat.reduceAdd, this]; rfl
  · rw [made_cell _ _ _ (by omega)]; have := m 2 (by omega); simp only [List.size_toArray, List.length_cons, List.length_nil, Nat.reduceAdd, this]; rfl
  · rw [made_cell _ _ _ (by omega)]; have := m 3 (by omega); simp only [List.size_toArray, List.length_cons, List.length_nil, Nat.reduceAdd, this]; rfl
  · rw [made_cell _ _ _ (by omega)]; have := m 4 (by omega); simp only [List.size_toArray, List.length_cons, List.length_nil, Nat.reduceAdd, this]; rfl
/-- The document's world: states, terms. -/
structure QW (Q SB TB : Nat) (C : Cfg) (S : Nat → Cs) (T : Nat → Tm5) (jv : Value) (w : World) : Prop where
  blk : BT Q 34 [.int .i64 (C.p : Int), .int .i64 (C.c : Int), .int .i64 C.n, .int .i64 C.b, .int .i64 C.r, .int .i64 (C.f : Int), .int .i64 (C.g : Int), .slice (some ⟨SB, 0, none⟩) C.A C.A, .slice (some ⟨TB, 0, none⟩) C.A C.A, jv, .int .i64 0, .slice none 0 0, .int .i64 0] w
  s : SRow SB C.A S w
  t : TRow TB C.A T w
theorem QW.below {Q SB TB : Nat} {C : Cfg} {S : Nat → Cs} {T : Nat → Tm5} {jv : Value} {w w' : World} (h : QW Q SB TB C S T jv w) (hb : Below w.heap.size w w') : QW Q SB TB C S T jv w' := ⟨h.blk.below hb, h.s.below hb, h.t.below hb⟩
/-- Its journals. -/
def jl (Jb : Nat → Nat) (n : Nat) : Nat → List Value
  | 0 => []
  | k + 1 => jl Jb n k ++ [.slice (some ⟨Jb k, 0, none⟩) n n]
theorem jl_len (Jb : Nat → Nat) (n : Nat) : ∀ k, (jl Jb n k).length = k
  | 0 => rfl
  | k + 1 => by show (jl Jb n k ++ _).length = k + 1; rw [List.length_append, jl_len Jb n k]; rfl
theorem jl_upd (Jb : Nat → Nat) (n k b : Nat) : ∀ m, m ≤ k → jl (upd Jb k b) n m = jl Jb n m
  | 0, _ => rfl
  | m + 1, h => by show jl (upd Jb k b) n m ++ _ = jl Jb n m ++ _; rw [jl_upd Jb n k b m (by omega), upd_ne Jb b (by omega)]
structure JR (base k n : Nat) (jv : Value) (Jb : Nat → Nat) (w : World) : Prop where
  row : w.ownsRow base 140 1 jv k (jl Jb n k)
  b : ∀ i, i < k → w.heap[Jb i]? = some (.cells (madeCells #[.int .i64 0, .int .i64 0, .int .i64 0, .int .i64 0, .int .i64 0, .int .i64 0] (n * 6)) 65 (0, 0)) ∧ base ≤ Jb i
theorem infoS : (Try.prog.info? 42).map (fun i => (i.zero, i.size, i.bytes)) = some (some (.agg #[.int .i64 0, .bool false, .int .i64 0, .int .i64 0, .int .i64 0]), 5, 40) := by kernel_rfl
theorem infoT : (Try.prog.info? 44).map (fun i => (i.zero, i.size, i.bytes)) = some (some (.agg #[.int .i64 0, .int .i64 0, .int .i64 0, .int .i64 0, .int .i64 0]), 5, 40) := by kernel_rfl
theorem infoRr : (Try.prog.info? 65).map (fun i => (i.zero, i.size, i.bytes)) = some (some (.agg #[.int .i64 0, .int .i64 0, .int .i64 0, .int .i64 0, .int .i64 0, .int .i64 0]), 6, 48) := by kernel_rfl
theorem infoJr : (Try.prog.info? 140).map (fun i => (i.zero, i.size, i.bytes)) = some (some (.slice none 0 0), 1, 24) := by kernel_rfl
theorem makeSt (n : Nat) (hn : n ≤ 8192) (W : World) : (Instr.makeSlice 29 (.int .i64 (n : Int)) (.int .i64 (n : Int))).run Try.prog W = .ok (.slice (some ⟨W.heap.size, 0, none⟩) n n) (W.alloc (.cells (madeCells #[.int .i64 0, .bool false, .int .i64 0, .int .i64 0, .int .i64 0] (n * 5)) 42)) := by
  obtain ⟨i0, hi, hz0, hz1, hz2⟩ := info_parts infoS
  have h := Mm.run_make_rowN (P := Try.prog) 29 42 i0 (.agg #[.int .i64 0, .bool false, .int .i64 0, .int .i64 0, .int .i64 0]) Try.underlying29 hi hz0 .i64 .i64 n n (Nat.le_refl _) (by rw [hz2]; omega) (by omega) W
  rw [hz1] at h
  exact h
theorem makeTm (n : Nat) (hn : n ≤ 8192) (W : World) : (Instr.makeSlice 30 (.int .i64 (n : Int)) (.int .i64 (n : Int))).run Try.prog W = .ok (.slice (some ⟨W.heap.size, 0, none⟩) n n) (W.alloc (.cells (madeCells #[.int .i64 0, .int .i64 0, .int .i64 0, .int .i64 0, .int .i64 0] (n * 5)) 44)) := by
  obtain ⟨i0, hi, hz0, hz1, hz2⟩ := info_parts infoT
  have h := Mm.run_make_rowN (P := Try.prog) 30 44 i0 (.agg #[.int .i64 0, .int .i64 0, .int .i64 0, .int .i64 0, .int .i64 0]) Try.underlying30 hi hz0 .i64 .i64 n n (Nat.le_refl _) (by rw [hz2]; omega) (by omega) W
  rw [hz1] at h
  exact h
theorem makeRr (n : Nat) (hn : n ≤ 8192) (W : World) : (Instr.makeSlice 140 (.int .i64 (n : Int)) (.int .i64 (n : Int))).run Try.prog W = .ok (.slice (some ⟨W.heap.size, 0, none⟩) n n) (W.alloc (.cells (madeCells #[.int .i64 0, .int .i64 0, .int .i64 0, .int .i64 0, .int .i64 0, .int .i64 0] (n * 6)) 65)) := by
  obtain ⟨i0, hi, hz0, hz1, hz2⟩ := info_parts infoRr
  have h := Mm.run_make_rowN (P := Try.prog) 140 65 i0 (.agg #[.int .i64 0, .int .i64 0, .int .i64 0, .int .i64 0, .int .i64 0, .int .i64 0]) Try.underlying140 hi hz0 .i64 .i64 n n (Nat.le_refl _) (by rw [hz2]; omega) (by omega) W
  rw [hz1] at h
  exact h
section
variable {C : Cfg}
set_option maxRecDepth 100000 in
set_option maxHeartbeats 16000000 in
theorem rnew10_is (hC : C.Ok) (w : World) : Calls Try.prog 28 #[RC C] w fun e w' => ∃ Q SB TB jv Jb, e = .returned (.pointer (some ⟨Q, 0, none⟩)) ∧ QW Q SB TB C (fun _ => S0) (fun _ => T0) jv w' ∧ JR w.heap.size C.A (C.g * (C.f + 1)) jv Jb w' ∧ (w.heap.size ≤ Q ∧ w.heap.size ≤ SB ∧ w.heap.size ≤ TB) ∧ Below w.heap.size w w' := by
  have h24 := hC.a24
  have hf := hC.hf
  have hg := hC.hg
  have hn : C.g * (C.f + 1) ≤ 75 := Nat.mul_le_mul hg.2 (show C.f + 1 ≤ 5 by omega)
  have W0 : IntKind.i64.wrap ((C.p : Int) * (C.c : Int)) = (C.A : Int) := by
    have e : (C.p : Int) * (C.c : Int) = (C.A : Int) := by unfold Cfg.A; exact_mod_cast rfl
    rw [e]; exact IntWalk.i64_in _ (by omega)
  have W1 : IntKind.i64.wrap ((C.f : Int) + 1) = (C.f : Int) + 1 := IntWalk.i64_in _ (by omega)
  have W2 : IntKind.i64.wrap ((C.g : Int) * ((C.f : Int) + 1)) = ((C.g * (C.f + 1) : Nat) : Int) := by
    have e : (C.g : Int) * ((C.f : Int) + 1) = ((C.g * (C.f + 1) : Nat) : Int) := by exact_mod_cast rfl
    rw [e]; exact IntWalk.i64_in _ (by omega)
  generalize C.g * (C.f + 1) = n at *
  have HMS := makeSt C.A (by omega)
  have HMT := makeTm C.A (by omega)
  have HMR := Lib.hid (makeRr n (by omega))
  have HA24 := Lib.hid h24
  have a0 : (0 : Int) ≤ (C.A : Int) := by omega
  have a1 : (C.A : Int) ≤ 24 := by omega
  clear hC hf hg h24
  unfold RC
  go_enter Try.func28, Try.ntmps28
  go_wp2_with fail
  have HRB := Lib.hid (show BT w.heap.size 23 [.int .i64 (C.p : Int), .int .i64 (C.c : Int), .int .i64 C.n, .int .i64 C.b, .int .i64 C.r, .int .i64 (C.f : Int), .int .i64 (C.g : Int)] (w.alloc (Obj.cells #[.int .i64 (C.p : Int), .int .i64 (C.c : Int), .int .i64 C.n, .int .i64 C.b, .int .i64 C.r, .int .i64 (C.f : Int), .int .i64 (C.g : Int)] 23)) from BT.new w [.int .i64 (C.p : Int), .int .i64 (C.c : Int), .int .i64 C.n, .int .i64 C.b, .int .i64 C.r, .int .i64 (C.f : Int), .int .i64 (C.g : Int)] 23)
  have HB0 := Lib.hid (show Below w.heap.size w (w.alloc (Obj.cells #[.int .i64 (C.p : Int), .int .i64 (C.c : Int), .int .i64 C.n, .int .i64 C.b, .int .i64 C.r, .int .i64 (C.f : Int), .int .i64 (C.g : Int)] 23)) from by go_grown)
  generalize w.alloc (Obj.cells #[.int .i64 (C.p : Int), .int .i64 (C.c : Int), .int .i64 C.n, .int .i64 C.b, .int .i64 C.r, .int .i64 (C.f : Int), .int .i64 (C.g : Int)] 23) = w0 at HRB HB0 ⊢
  go_cut [4] (fun s4 wx => ∃ Q SB TB, s4 = .pointer (some ⟨Q, 0, none⟩) ∧ Hid (QW Q SB TB C (fun _ => S0) (fun _ => T0) (.slice none 0 0) wx) ∧ Hid (BT w.heap.size 23 [.int .i64 (C.p : Int), .int .i64 (C.c : Int), .int .i64 C.n, .int .i64 C.b, .int .i64 C.r, .int .i64 (C.f : Int), .int .i64 (C.g : Int)] wx) ∧ Hid (w.heap.size ≤ Q ∧ w.heap.size ≤ SB ∧ w.heap.size ≤ TB) ∧ Hid (Below w.heap.size w wx))
  case first =>
    have h2 : BT w.heap.size 23 [.int .i64 (C.p : Int), .int .i64 (C.c : Int), .int .i64 C.n, .int .i64 C.b, .int .i64 C.r, .int .i64 (C.f : Int), .int .i64 (C.g : Int)] w0.drew ∧ Below w.heap.size w w0.drew := ⟨HRB.out, HB0.out.drew⟩
    refine wp_region_held_drew (S := fun w' => BT w.heap.size 23 [.int .i64 (C.p : Int), .int .i64 (C.c : Int), .int .i64 C.n, .int .i64 C.b, .int .i64 C.r, .int .i64 (C.f : Int), .int .i64 (C.g : Int)] w' ∧ Below w.heap.size w w') (by kernel_rfl) h2 (fun hHeld => ?_)
    clear h2
    generalize w0.drew = WD at hHeld ⊢
    refine tk (i := 0) (d := some 11) (v := ?_) (hy := Or.inl ⟨by rfl, ?_⟩) (h := ?_)
    rotate_left
    · intro wq hSw
      have hb9 := hSw.1.bl
      have l7 := hb9.lt
      have z0 := hb9.cell 0 _ rfl
      have z1 := hb9.cell 1 _ rfl
      have z2 := hb9.cell 2 _ rfl
      have z3 := hb9.cell 3 _ rfl
      have z4 := hb9.cell 4 _ rfl
      have z5 := hb9.cell 5 _ rfl
      have z6 := hb9.cell 6 _ rfl
      go_simp
      try with_reducible rfl
    simp only [Act.put, tkA, tkB, tkC]
    refine tk (i := 1) (d := some 12) (v := ?_) (hy := Or.inl ⟨by rfl, ?_⟩) (h := ?_)
    rotate_left
    · intro wq hSw
      go_simp
      try with_reducible rfl
    simp only [Act.put, tkA, tkB, tkC]
    refine tk (i := 3) (d := some 14) (v := ?_) (hy := Or.inl ⟨by rfl, ?_⟩) (h := ?_)
    rotate_left
    · intro wq hSw
      go_simp
      try with_reducible rfl
    simp only [Act.put, tkA, tkB, tkC]
    refine wpAnyH_ready (rs := [2, 4]) (by as_aux_lemma => kernel_rfl) (by simp) ?_
    refine AllReadyH.cons rfl (fun K hK => ?_) ?_
    · go_simp
      have HNEW := Lib.hid (srow_new C.A WD)
      have NX := Lib.hid hHeld.2.size
      refine hK.out _ _ ⟨hHeld.1.below (w' := WD.alloc (Obj.cells (madeCells #[.int .i64 0, .bool false, .int .i64 0, .int .i64 0, .int .i64 0] (C.A * 5)) 42)) (by go_grown), hHeld.2.alloc hHeld.2.size (Obj.cells (madeCells #[.int .i64 0, .bool false, .int .i64 0, .int .i64 0, .int .i64 0] (C.A * 5)) 42)⟩ (fun hHeld => ?_)
      clear hK K
      try simp only [Act.put, tkA, tkB, tkC]
      generalize WD.alloc (Obj.cells (madeCells #[.int .i64 0, .bool false, .int .i64 0, .int .i64 0, .int .i64 0] (C.A * 5)) 42) = WE at hHeld HNEW ⊢
      generalize WD.heap.size = SB at HNEW NX ⊢
      have NSB := NX
      have HSR := HNEW
      clear NX HNEW
      refine wpAnyH_ready (rs := [4]) (by as_aux_lemma => kernel_rfl) (by simp) ?_
      refine AllReadyH.cons rfl (fun K hK => ?_) AllReadyH.nil
      go_simp
      have HNEW := Lib.hid (trow_new C.A WE)
      have NX := Lib.hid hHeld.2.size
      have HP2 := Lib.hid (HSR.out.below (w' := WE.alloc (Obj.cells (madeCells #[.int .i64 0, .int .i64 0, .int .i64 0, .int .i64 0, .int .i64 0] (C.A * 5)) 44)) (by go_grown))
      clear HSR
      refine hK.out _ _ ⟨hHeld.1.below (w' := WE.alloc (Obj.cells (madeCells #[.int .i64 0, .int .i64 0, .int .i64 0, .int .i64 0, .int .i64 0] (C.A * 5)) 44)) (by go_grown), hHeld.2.alloc hHeld.2.size (Obj.cells (madeCells #[.int .i64 0, .int .i64 0, .int .i64 0, .int .i64 0, .int .i64 0] (C.A * 5)) 44)⟩ (fun hHeld => ?_)
      clear hK K
      try simp only [Act.put, tkA, tkB, tkC]
      generalize WE.alloc (Obj.cells (madeCells #[.int .i64 0, .int .i64 0, .int .i64 0, .int .i64 0, .int .i64 0] (C.A * 5)) 44) = WF at hHeld HNEW HP2 ⊢
      generalize WE.heap.size = TB at HNEW NX ⊢
      have NTB := NX
      have HTR := HNEW
      clear NX HNEW
      have HSR := HP2
      clear HP2
      refine tk (i := 5) (d := some 16) (v := ?_) (hy := Or.inl ⟨by rfl, ?_⟩) (h := ?_)
      rotate_left
      · intro wq hSw
        go_simp
        try with_reducible rfl
      simp only [Act.put, tkA, tkB, tkC]
      refine wpAnyH_ready (rs := [6]) (by as_aux_lemma => kernel_rfl) (by simp) ?_
      refine AllReadyH.cons rfl (fun K hK => ?_) AllReadyH.nil
      go_simp
      have HQ := Lib.hid (BT.new WF [.int .i64 (C.p : Int), .int .i64 (C.c : Int), .int .i64 C.n, .int .i64 C.b, .int .i64 C.r, .int .i64 (C.f : Int), .int .i64 (C.g : Int), .slice (some ⟨SB, 0, none⟩) C.A C.A, .slice (some ⟨TB, 0, none⟩) C.A C.A, .slice none 0 0, .int .i64 0, .slice none 0 0, .int .i64 0] 34)
      have NQ := Lib.hid hHeld.2.size
      have HS2 := Lib.hid (HSR.out.below (w' := WF.alloc (Obj.cells #[.int .i64 (C.p : Int), .int .i64 (C.c : Int), .int .i64 C.n, .int .i64 C.b, .int .i64 C.r, .int .i64 (C.f : Int), .int .i64 (C.g : Int), .slice (some ⟨SB, 0, none⟩) C.A C.A, .slice (some ⟨TB, 0, none⟩) C.A C.A, .slice none 0 0, .int .i64 0, .slice none 0 0, .int .i64 0] 34)) (by go_grown))
      have HT2 := Lib.hid (HTR.out.below (w' := WF.alloc (Obj.cells #[.int .i64 (C.p : Int), .int .i64 (C.c : Int), .int .i64 C.n, .int .i64 C.b, .int .i64 C.r, .int .i64 (C.f : Int), .int .i64 (C.g : Int), .slice (some ⟨SB, 0, none⟩) C.A C.A, .slice (some ⟨TB, 0, none⟩) C.A C.A, .slice none 0 0, .int .i64 0, .slice none 0 0, .int .i64 0] 34)) (by go_grown))
      refine hK.out _ _ ⟨hHeld.1.below (w' := WF.alloc (Obj.cells #[.int .i64 (C.p : Int), .int .i64 (C.c : Int), .int .i64 C.n, .int .i64 C.b, .int .i64 C.r, .int .i64 (C.f : Int), .int .i64 (C.g : Int), .slice (some ⟨SB, 0, none⟩) C.A C.A, .slice (some ⟨TB, 0, none⟩) C.A C.A, .slice none 0 0, .int .i64 0, .slice none 0 0, .int .i64 0] 34)) (by go_grown), hHeld.2.alloc hHeld.2.size (Obj.cells #[.int .i64 (C.p : Int), .int .i64 (C.c : Int), .int .i64 C.n, .int .i64 C.b, .int .i64 C.r, .int .i64 (C.f : Int), .int .i64 (C.g : Int), .slice (some ⟨SB, 0, none⟩) C.A C.A, .slice (some ⟨TB, 0, none⟩) C.A C.A, .slice none 0 0, .int .i64 0, .slice none 0 0, .int .i64 0] 34)⟩ (fun hHeld => ?_)
      clear hK K
      try simp only [Act.put, tkA, tkB, tkC]
      refine tk (i := 7) (d := some 4) (v := ?_) (hy := Or.inl ⟨by rfl, ?_⟩) (h := ?_)
      rotate_left
      · intro wq hSw
        go_simp
        try with_reducible rfl
      simp only [Act.put, tkA, tkB, tkC]
      refine wpAnyH_done (by as_aux_lemma => kernel_rfl) ?_ _
      go_wp2_with fail
      go_meet
      case rel =>
        exact ⟨_, SB, TB, rfl, Lib.hid ⟨HQ.out, HS2.out, HT2.out⟩, Lib.hid hHeld.1, Lib.hid ⟨NQ.out, NSB.out, NTB.out⟩, Lib.hid hHeld.2⟩
    refine AllReadyH.cons rfl (fun K hK => ?_) AllReadyH.nil
    go_simp
    have HNEW := Lib.hid (trow_new C.A WD)
    have NX := Lib.hid hHeld.2.size
    refine hK.out _ _ ⟨hHeld.1.below (w' := WD.alloc (Obj.cells (madeCells #[.int .i64 0, .int .i64 0, .int .i64 0, .int .i64 0, .int .i64 0] (C.A * 5)) 44)) (by go_grown), hHeld.2.alloc hHeld.2.size (Obj.cells (madeCells #[.int .i64 0, .int .i64 0, .int .i64 0, .int .i64 0, .int .i64 0] (C.A * 5)) 44)⟩ (fun hHeld => ?_)
    clear hK K
    try simp only [Act.put, tkA, tkB, tkC]
    generalize WD.alloc (Obj.cells (madeCells #[.int .i64 0, .int .i64 0, .int .i64 0, .int .i64 0, .int .i64 0] (C.A * 5)) 44) = WE at hHeld HNEW ⊢
    generalize WD.heap.size = TB at HNEW NX ⊢
    have NTB := NX
    have HTR := HNEW
    clear NX HNEW
    refine wpAnyH_ready (rs := [2]) (by as_aux_lemma => kernel_rfl) (by simp) ?_
    refine AllReadyH.cons rfl (fun K hK => ?_) AllReadyH.nil
    go_simp
    have HNEW := Lib.hid (srow_new C.A WE)
    have NX := Lib.hid hHeld.2.size
    have HP2 := Lib.hid (HTR.out.below (w' := WE.alloc (Obj.cells (madeCells #[.int .i64 0, .bool false, .int .i64 0, .int .i64 0, .int .i64 0] (C.A * 5)) 42)) (by go_grown))
    clear HTR
    refine hK.out _ _ ⟨hHeld.1.below (w' := WE.alloc (Obj.cells (madeCells #[.int .i64 0, .bool false, .int .i64 0, .int .i64 0, .int .i64 0] (C.A * 5)) 42)) (by go_grown), hHeld.2.alloc hHeld.2.size (Obj.cells (madeCells #[.int .i64 0, .bool false, .int .i64 0, .int .i64 0, .int .i64 0] (C.A * 5)) 42)⟩ (fun hHeld => ?_)
    clear hK K
    try simp only [Act.put, tkA, tkB, tkC]
    generalize WE.alloc (Obj.cells (madeCells #[.int .i64 0, .bool false, .int .i64 0, .int .i64 0, .int .i64 0] (C.A * 5)) 42) = WF at hHeld HNEW HP2 ⊢
    generalize WE.heap.size = SB at HNEW NX ⊢
    have NSB := NX
    have HSR := HNEW
    clear NX HNEW
    have HTR := HP2
    clear HP2
    refine tk (i := 5) (d := some 16) (v := ?_) (hy := Or.inl ⟨by rfl, ?_⟩) (h := ?_)
    rotate_left
    · intro wq hSw
      go_simp
      try with_reducible rfl
    simp only [Act.put, tkA, tkB, tkC]
    refine wpAnyH_ready (rs := [6]) (by as_aux_lemma => kernel_rfl) (by simp) ?_
    refine AllReadyH.cons rfl (fun K hK => ?_) AllReadyH.nil
    go_simp
    have HQ := Lib.hid (BT.new WF [.int .i64 (C.p : Int), .int .i64 (C.c : Int), .int .i64 C.n, .int .i64 C.b, .int .i64 C.r, .int .i64 (C.f : Int), .int .i64 (C.g : Int), .slice (some ⟨SB, 0, none⟩) C.A C.A, .slice (some ⟨TB, 0, none⟩) C.A C.A, .slice none 0 0, .int .i64 0, .slice none 0 0, .int .i64 0] 34)
    have NQ := Lib.hid hHeld.2.size
    have HS2 := Lib.hid (HSR.out.below (w' := WF.alloc (Obj.cells #[.int .i64 (C.p : Int), .int .i64 (C.c : Int), .int .i64 C.n, .int .i64 C.b, .int .i64 C.r, .int .i64 (C.f : Int), .int .i64 (C.g : Int), .slice (some ⟨SB, 0, none⟩) C.A C.A, .slice (some ⟨TB, 0, none⟩) C.A C.A, .slice none 0 0, .int .i64 0, .slice none 0 0, .int .i64 0] 34)) (by go_grown))
    have HT2 := Lib.hid (HTR.out.below (w' := WF.alloc (Obj.cells #[.int .i64 (C.p : Int), .int .i64 (C.c : Int), .int .i64 C.n, .int .i64 C.b, .int .i64 C.r, .int .i64 (C.f : Int), .int .i64 (C.g : Int), .slice (some ⟨SB, 0, none⟩) C.A C.A, .slice (some ⟨TB, 0, none⟩) C.A C.A, .slice none 0 0, .int .i64 0, .slice none 0 0, .int .i64 0] 34)) (by go_grown))
    refine hK.out _ _ ⟨hHeld.1.below (w' := WF.alloc (Obj.cells #[.int .i64 (C.p : Int), .int .i64 (C.c : Int), .int .i64 C.n, .int .i64 C.b, .int .i64 C.r, .int .i64 (C.f : Int), .int .i64 (C.g : Int), .slice (some ⟨SB, 0, none⟩) C.A C.A, .slice (some ⟨TB, 0, none⟩) C.A C.A, .slice none 0 0, .int .i64 0, .slice none 0 0, .int .i64 0] 34)) (by go_grown), hHeld.2.alloc hHeld.2.size (Obj.cells #[.int .i64 (C.p : Int), .int .i64 (C.c : Int), .int .i64 C.n, .int .i64 C.b, .int .i64 C.r, .int .i64 (C.f : Int), .int .i64 (C.g : Int), .slice (some ⟨SB, 0, none⟩) C.A C.A, .slice (some ⟨TB, 0, none⟩) C.A C.A, .slice none 0 0, .int .i64 0, .slice none 0 0, .int .i64 0] 34)⟩ (fun hHeld => ?_)
    clear hK K
    try simp only [Act.put, tkA, tkB, tkC]
    refine tk (i := 7) (d := some 4) (v := ?_) (hy := Or.inl ⟨by rfl, ?_⟩) (h := ?_)
    rotate_left
    · intro wq hSw
      go_simp
      try with_reducible rfl
    simp only [Act.put, tkA, tkB, tkC]
    refine wpAnyH_done (by as_aux_lemma => kernel_rfl) ?_ _
    go_wp2_with fail
    go_meet
    case rel =>
      exact ⟨_, SB, TB, rfl, Lib.hid ⟨HQ.out, HS2.out, HT2.out⟩, Lib.hid hHeld.1, Lib.hid ⟨NQ.out, NSB.out, NTB.out⟩, Lib.hid hHeld.2⟩
  case rest =>
    obtain ⟨Q, SB, TB, rfl, HQW, HCB, HLO, HBB⟩ := hcut
    obtain ⟨w2, hw2⟩ : ∃ w2, w2 = wc := ⟨_, rfl⟩
    subst hw2
    clear HRB HB0 HMS HMT W0
    go_wp2_with fail
    go_loopw [5] (fun i wr => ∃ (k : Nat) (jv : Value) (Jb : Nat → Nat), k ≤ C.A ∧ i = .int .i64 (k : Int) ∧ Hid (QW Q SB TB C (fun _ => S0) (fun _ => T0) jv wr) ∧ Hid (BT w.heap.size 23 [.int .i64 (C.p : Int), .int .i64 (C.c : Int), .int .i64 C.n, .int .i64 C.b, .int .i64 C.r, .int .i64 (C.f : Int), .int .i64 (C.g : Int)] wr) ∧ Hid (JR w.heap.size k n jv Jb wr) ∧ Hid (Below w.heap.size w wr)) (fun i _ => C.A + 1 - (intOf i).toNat)
    case atStart => exact ⟨0, _, fun _ => 0, Nat.zero_le _, rfl, HQW, HCB, Lib.hid ⟨World.ownsRow_nil _ _ _ _, fun i hi => absurd hi (Nat.not_lt_zero i)⟩, HBB⟩
    case round =>
      clear HQW HCB HBB
      obtain ⟨k, jv, Jb, hk, rfl, HQW, HCB, HJR, HBB⟩ := hrel
      by_cases hlt : k < C.A
      · have k0 : (0 : Int) ≤ (k : Int) := by omega
        have k1 : (k : Int) < (C.A : Int) := by omega
        go_wp2_with fail
        have HQB := Lib.hid (show BT Q 34 [.int .i64 (C.p : Int), .int .i64 (C.c : Int), .int .i64 C.n, .int .i64 C.b, .int .i64 C.r, .int .i64 (C.f : Int), .int .i64 (C.g : Int), .slice (some ⟨SB, 0, none⟩) C.A C.A, .slice (some ⟨TB, 0, none⟩) C.A C.A, jv, .int .i64 0, .slice none 0 0, .int .i64 0] wr.drew from HQW.out.blk)
        have HSR := Lib.hid (show SRow SB C.A (fun _ => S0) wr.drew from HQW.out.s)
        have HTR := Lib.hid (show TRow TB C.A (fun _ => T0) wr.drew from HQW.out.t)
        have HJD := Lib.hid (show JR w.heap.size k n jv Jb wr.drew from ⟨HJR.out.row, HJR.out.b⟩)
        have HBD := Lib.hid (show Below w.heap.size w wr.drew from HBB.out.drew)
        obtain ⟨i0, hi, hz0, hz1, hz2⟩ := info_parts infoJr
        have HI0 := Lib.hid hi
        have HZ0 := Lib.hid hz0
        have HZ1 := Lib.hid hz1
        have HZ2 := Lib.hid hz2
        have HK24 := Lib.hid (show k + 1 ≤ 24 from by have := HA24.out; omega)
        clear hi hz0 hz1 hz2
        refine wp_region_held_drew (S := fun w' => BT w.heap.size 23 [.int .i64 (C.p : Int), .int .i64 (C.c : Int), .int .i64 C.n, .int .i64 C.b, .int .i64 C.r, .int .i64 (C.f : Int), .int .i64 (C.g : Int)] w') (by kernel_rfl) (show BT w.heap.size 23 [.int .i64 (C.p : Int), .int .i64 (C.c : Int), .int .i64 C.n, .int .i64 C.b, .int .i64 C.r, .int .i64 (C.f : Int), .int .i64 (C.g : Int)] wr.drew from HCB.out) (fun hHeld => ?_)
        clear HQW HCB HJR HBB
        generalize wr.drew = WD at hHeld HQB HSR HTR HJD HBD ⊢
        refine tk (i := 0) (d := some 23) (v := ?_) (hy := Or.inl ⟨by rfl, ?_⟩) (h := ?_)
        rotate_left
        · intro wq hSw
          go_simp
          try with_reducible rfl
        simp only [Act.put, tkA, tkB, tkC]
        refine tk (i := 1) (d := some 24) (v := ?_) (hy := Or.inl ⟨by rfl, ?_⟩) (h := ?_)
        rotate_left
        · intro wq hSw
          go_simp
          try with_reducible rfl
        simp only [Act.put, tkA, tkB, tkC]
        refine tk (i := 2) (d := some 25) (v := ?_) (hy := Or.inl ⟨by rfl, ?_⟩) (h := ?_)
        rotate_left
        · intro wq hSw
          go_simp
          try with_reducible rfl
        simp only [Act.put, tkA, tkB, tkC]
        refine tk (i := 3) (d := some 26) (v := ?_) (hy := Or.inl ⟨by rfl, ?_⟩) (h := ?_)
        rotate_left
        · intro wq hSw
          go_simp
          try with_reducible rfl
        simp only [Act.put, tkA, tkB, tkC]
        refine tk (i := 5) (d := some 28) (v := ?_) (hy := Or.inl ⟨by rfl, ?_⟩) (h := ?_)
        rotate_left
        · intro wq hSw
          go_simp
          try with_reducible rfl
        simp only [Act.put, tkA, tkB, tkC]
        refine tk (i := 6) (d := some 29) (v := ?_) (hy := Or.inl ⟨by rfl, ?_⟩) (h := ?_)
        rotate_left
        · intro wq hSw
          have hb9 := (show BT _ _ _ wq from hSw).bl
          have l7 := hb9.lt
          have z0 := hb9.cell 0 _ rfl
          have z1 := hb9.cell 1 _ rfl
          have z2 := hb9.cell 2 _ rfl
          have z3 := hb9.cell 3 _ rfl
          have z4 := hb9.cell 4 _ rfl
          have z5 := hb9.cell 5 _ rfl
          have z6 := hb9.cell 6 _ rfl
          go_simp
          try with_reducible rfl
        simp only [Act.put, tkA, tkB, tkC]
        refine tk (i := 7) (d := some 30) (v := ?_) (hy := Or.inl ⟨by rfl, ?_⟩) (h := ?_)
        rotate_left
        · intro wq hSw
          go_simp
          try with_reducible rfl
        simp only [Act.put, tkA, tkB, tkC]
        refine tk (i := 8) (d := some 31) (v := ?_) (hy := Or.inl ⟨by rfl, ?_⟩) (h := ?_)
        rotate_left
        · intro wq hSw
          have hb9 := (show BT _ _ _ wq from hSw).bl
          have l7 := hb9.lt
          have z0 := hb9.cell 0 _ rfl
          have z1 := hb9.cell 1 _ rfl
          have z2 := hb9.cell 2 _ rfl
          have z3 := hb9.cell 3 _ rfl
          have z4 := hb9.cell 4 _ rfl
          have z5 := hb9.cell 5 _ rfl
          have z6 := hb9.cell 6 _ rfl
          go_simp
          try with_reducible rfl
        simp only [Act.put, tkA, tkB, tkC]
        refine tk (i := 9) (d := some 32) (v := ?_) (hy := Or.inl ⟨by rfl, ?_⟩) (h := ?_)
        rotate_left
        · intro wq hSw
          go_simp
          try with_reducible rfl
        simp only [Act.put, tkA, tkB, tkC]
        refine tk (i := 10) (d := some 33) (v := ?_) (hy := Or.inl ⟨by rfl, ?_⟩) (h := ?_)
        rotate_left
        · intro wq hSw
          go_simp
          try with_reducible rfl
        simp only [Act.put, tkA, tkB, tkC]
        refine wpAnyH_ready (rs := [4, 11]) (by as_aux_lemma => kernel_rfl) (by simp) ?_
        refine AllReadyH.cons rfl (fun K hK => ?_) ?_
        · have d9 := HQB.out.bl.cell 9 _ rfl
          have l9 := HQB.out.bl.lt
          go_simp
          refine hK.out _ _ hHeld (fun hHeld => ?_)
          clear hK K d9 l9
          try simp only [Act.put, tkA, tkB, tkC]
          refine wpAnyH_ready (rs := [11]) (by as_aux_lemma => kernel_rfl) (by simp) ?_
          refine AllReadyH.cons rfl (fun K hK => ?_) AllReadyH.nil
          have hmr := HMR.out WD
          go_simp
          clear hmr
          have HQ2 := Lib.hid (HQB.out.below (w' := WD.alloc (Obj.cells (madeCells #[.int .i64 0, .int .i64 0, .int .i64 0, .int .i64 0, .int .i64 0, .int .i64 0] (n * 6)) 65)) (by go_grown))
          have HS2 := Lib.hid (HSR.out.below (w' := WD.alloc (Obj.cells (madeCells #[.int .i64 0, .int .i64 0, .int .i64 0, .int .i64 0, .int .i64 0, .int .i64 0] (n * 6)) 65)) (by go_grown))
          have HT2 := Lib.hid (HTR.out.below (w' := WD.alloc (Obj.cells (madeCells #[.int .i64 0, .int .i64 0, .int .i64 0, .int .i64 0, .int .i64 0, .int .i64 0] (n * 6)) 65)) (by go_grown))
          have HJ2 := Lib.hid (show JR w.heap.size k n jv Jb (WD.alloc (Obj.cells (madeCells #[.int .i64 0, .int .i64 0, .int .i64 0, .int .i64 0, .int .i64 0, .int .i64 0] (n * 6)) 65)) from ⟨rkept HJD.out.row (by go_grown), fun i hi => ⟨(Below.heap_alloc _ _ _ (blk_lt (HJD.out.b i hi).1)).trans (HJD.out.b i hi).1, (HJD.out.b i hi).2⟩⟩)
          have NX := Lib.hid HBD.out.size
          have HB2 := Lib.hid (HBD.out.alloc HBD.out.size (Obj.cells (madeCells #[.int .i64 0, .int .i64 0, .int .i64 0, .int .i64 0, .int .i64 0, .int .i64 0] (n * 6)) 65))
          have HN11 := Lib.hid (heap_alloc_new WD (Obj.cells (madeCells #[.int .i64 0, .int .i64 0, .int .i64 0, .int .i64 0, .int .i64 0, .int .i64 0] (n * 6)) 65))
          refine hK.out _ _ (hHeld.below (w' := WD.alloc (Obj.cells (madeCells #[.int .i64 0, .int .i64 0, .int .i64 0, .int .i64 0, .int .i64 0, .int .i64 0] (n * 6)) 65)) (by go_grown)) (fun hHeld => ?_)
          clear hK K HQB HSR HTR HJD HBD
          have HQB := HQ2
          have HSR := HS2
          have HTR := HT2
          have HJD := HJ2
          have HBD := HB2
          clear HQ2 HS2 HT2 HJ2 HB2
          try simp only [Act.put, tkA, tkB, tkC]
          generalize WD.alloc (Obj.cells (madeCells #[.int .i64 0, .int .i64 0, .int .i64 0, .int .i64 0, .int .i64 0, .int .i64 0] (n * 6)) 65) = W11 at hHeld HQB HSR HTR HJD HBD HN11 ⊢
          generalize WD.heap.size = nb at HN11 NX ⊢
          have NNB := NX
          clear NX
          refine wpAnyH_ready (rs := [12]) (by as_aux_lemma => kernel_rfl) (by simp) ?_
          refine AllReadyH.cons rfl (fun K hK => ?_) AllReadyH.nil
          go_simp
          have HQ2 := Lib.hid (HQB.out.below (w' := W11.alloc (Obj.cells #[.slice (some ⟨nb, 0, none⟩) n n] 140)) (by go_grown))
          have HS2 := Lib.hid (HSR.out.below (w' := W11.alloc (Obj.cells #[.slice (some ⟨nb, 0, none⟩) n n] 140)) (by go_grown))
          have HT2 := Lib.hid (HTR.out.below (w' := W11.alloc (Obj.cells #[.slice (some ⟨nb, 0, none⟩) n n] 140)) (by go_grown))
          have HJ2 := Lib.hid (show JR w.heap.size k n jv Jb (W11.alloc (Obj.cells #[.slice (some ⟨nb, 0, none⟩) n n] 140)) from ⟨rkept HJD.out.row (by go_grown), fun i hi => ⟨(Below.heap_alloc _ _ _ (blk_lt (HJD.out.b i hi).1)).trans (HJD.out.b i hi).1, (HJD.out.b i hi).2⟩⟩)
          have NX := Lib.hid HBD.out.size
          have HB2 := Lib.hid (HBD.out.alloc HBD.out.size (Obj.cells #[.slice (some ⟨nb, 0, none⟩) n n] 140))
          have HRD := Lib.hid (reads_newN W11 1 1 [.slice (some ⟨nb, 0, none⟩) n n] 140 rfl)
          have HN12 := Lib.hid ((Below.heap_alloc W11 (Obj.cells #[.slice (some ⟨nb, 0, none⟩) n n] 140) nb (blk_lt HN11.out)).trans HN11.out)
          refine hK.out _ _ (hHeld.below (w' := W11.alloc (Obj.cells #[.slice (some ⟨nb, 0, none⟩) n n] 140)) (by go_grown)) (fun hHeld => ?_)
          clear hK K HQB HSR HTR HJD HBD
          have HQB := HQ2
          have HSR := HS2
          have HTR := HT2
          have HJD := HJ2
          have HBD := HB2
          clear HQ2 HS2 HT2 HJ2 HB2
          try simp only [Act.put, tkA, tkB, tkC]
          generalize hW12 : W11.alloc (Obj.cells #[.slice (some ⟨nb, 0, none⟩) n n] 140) = W12 at hHeld HQB HSR HTR HJD HBD HN12 ⊢
          have HRD2 := Lib.hid (show Reads W12 (W11.heap.size + 1) 1 (some ⟨W11.heap.size, 0, none⟩) 1 [.slice (some ⟨nb, 0, none⟩) n n] from by rw [← hW12]; exact HRD.out)
          clear NX HRD hW12
          generalize W11.heap.size = rb at HRD2 ⊢
          have NVV := Lib.hid (show ∀ zz ∈ ([.slice (some ⟨nb, 0, none⟩) n n] : List Value), zz.oneCell' = true from by
            intro zz hz
            simp only [List.mem_cons, List.not_mem_nil, or_false] at hz
            subst hz; rfl)
          refine wpAnyH_ready (rs := [13]) (by as_aux_lemma => kernel_rfl) (by simp) ?_
          refine AllReadyH.cons rfl (fun K hK => ?_) AllReadyH.nil
          refine step_append_any _ (by rfl) (.tmp 27) (.tmp 35) 31 (by rfl) w.heap.size 140 i0 (.slice none 0 0) 1 24 Try.underlying31 HI0.out HZ0.out HZ1.out HZ2.out rfl (by decide) jv k (jl Jb n k) (by rfl) HJD.out.row (rb + 1) (some ⟨rb, 0, none⟩) 1 1 [.slice (some ⟨nb, 0, none⟩) n n] (by rfl) HRD2.out NVV.out (by have := HK24.out; unfold maxLen; omega) (by have := HK24.out; omega) HBD.out.size ?_
          intro v6 w6 hown6 hgrow6 hblk6
          obtain ⟨A6, c6, rfl⟩ := oshape hown6
          have NOQ := own_ne HJD.out.row HQB.out (by decide)
          have NOC := own_ne HJD.out.row hHeld (by decide)
          have NOR := own_ne HJD.out.row HN12.out (by decide)
          have hq6 := Lib.hid (HQB.out.grown hgrow6 NOQ)
          have hs6 := Lib.hid (HSR.out.keep (hgrow6.block SB HSR.out.lt (fun e => by obtain ⟨cs, hc1, _⟩ := HSR.out; exact own_ne HJD.out.row hc1 (by decide) e.symm)))
          have ht6 := Lib.hid (HTR.out.keep (hgrow6.block TB HTR.out.lt (fun e => by obtain ⟨cs, hc1, _⟩ := HTR.out; exact own_ne HJD.out.row hc1 (by decide) e.symm)))
          have hb6 := Lib.hid (Below.grown HBD.out hgrow6 HBD.out.size fun k e => (HJD.out.row.lt k e).1)
          have hn6 := Lib.hid ((hgrow6.block nb (blk_lt HN12.out) (fun e => NOR e.symm)).trans HN12.out)
          have hj6 := Lib.hid (show ∀ i, i < k → w6.heap[Jb i]? = some (.cells (madeCells #[.int .i64 0, .int .i64 0, .int .i64 0, .int .i64 0, .int .i64 0, .int .i64 0] (n * 6)) 65 (0, 0)) ∧ w.heap.size ≤ Jb i from fun i hi => ⟨(hgrow6.block (Jb i) (blk_lt (HJD.out.b i hi).1) (fun e => own_ne HJD.out.row (HJD.out.b i hi).1 (by decide) e.symm)).trans (HJD.out.b i hi).1, (HJD.out.b i hi).2⟩)
          have hr6 := Lib.hid hown6
          have NO6 := Lib.hid (own_ne hown6 hq6.out (by decide))
          refine hK.out _ _ (hHeld.grown hgrow6 NOC) (fun hHeld => ?_)
          clear hK K hown6 hgrow6 hblk6 NOQ NOC NOR HQB HSR HTR HJD HBD HN12 HN11 HRD2 NVV
          try simp only [Act.put, tkA, tkB, tkC]
          refine tk (i := 14) (d := some 37) (v := ?_) (hy := Or.inl ⟨by rfl, ?_⟩) (h := ?_)
          rotate_left
          · intro wq hSw
            go_simp
            try with_reducible rfl
          simp only [Act.put, tkA, tkB, tkC]
          refine tk (i := 15) (d := some 38) (v := ?_) (hy := Or.inl ⟨by rfl, ?_⟩) (h := ?_)
          rotate_left
          · intro wq hSw
            go_simp
            try with_reducible rfl
          simp only [Act.put, tkA, tkB, tkC]
          refine wpAnyH_ready (rs := [16]) (by as_aux_lemma => kernel_rfl) (by simp) ?_
          refine AllReadyH.cons rfl (fun K hK => ?_) AllReadyH.nil
          have d9 := hq6.out.bl.cell 9 _ rfl
          have f9 := hq6.out.bl.frz 9
          have l9 := hq6.out.bl.lt
          go_simp
          have HQ7 := Lib.hid (show BT Q 34 [.int .i64 (C.p : Int), .int .i64 (C.c : Int), .int .i64 C.n, .int .i64 C.b, .int .i64 C.r, .int .i64 (C.f : Int), .int .i64 (C.g : Int), .slice (some ⟨SB, 0, none⟩) C.A C.A, .slice (some ⟨TB, 0, none⟩) C.A C.A, (.slice A6 (k + 1) c6), .int .i64 0, .slice none 0 0, .int .i64 0] (w6.setCell ⟨Q, 9, none⟩ (.slice A6 (k + 1) c6)) from hq6.out.set 9 (.slice A6 (k + 1) c6))
          have e7 : ∀ x, x ≠ Q → (w6.setCell ⟨Q, 9, none⟩ (.slice A6 (k + 1) c6)).heap[x]? = w6.heap[x]? := fun x hx => Below.heap_setCell w6 ⟨Q, 9, none⟩ (.slice A6 (k + 1) c6) x hx
          have HS7 := Lib.hid (hs6.out.keep (e7 SB (fun e => by obtain ⟨cs, hc1, _⟩ := hs6.out; exact ne_ty hc1 hq6.out (by decide) e)))
          have HT7 := Lib.hid (ht6.out.keep (e7 TB (fun e => by obtain ⟨cs, hc1, _⟩ := ht6.out; exact ne_ty hc1 hq6.out (by decide) e)))
          have neR : ∀ x cs, w6.heap[x]? = some (.cells cs 65 (0, 0)) → x ≠ Q := fun x cs hx e => ne_ty hx hq6.out (by decide) e
          have HJ7 := Lib.hid (show JR w.heap.size (k + 1) n (.slice A6 (k + 1) c6) (upd Jb k nb) (w6.setCell ⟨Q, 9, none⟩ (.slice A6 (k + 1) c6)) from ⟨by
            have hr := row_loc (w' := w6.setCell ⟨Q, 9, none⟩ (.slice A6 (k + 1) c6)) hr6.out (fun x hx _ => e7 x (fun e => NO6.out (by rw [hx, e])))
            show World.ownsRow _ _ _ _ _ _ (jl (upd Jb k nb) n k ++ [.slice (some ⟨upd Jb k nb k, 0, none⟩) n n])
            rw [jl_upd Jb n k nb k (Nat.le_refl _), upd_at]
            exact hr, fun i hi => by
            by_cases e : i = k
            · subst e; rw [upd_at]; exact ⟨(e7 nb (neR nb _ hn6.out)).trans hn6.out, NNB.out⟩
            · rw [upd_ne Jb nb e]; exact ⟨(e7 (Jb i) (neR _ _ (hj6.out i (by omega)).1)).trans (hj6.out i (by omega)).1, (hj6.out i (by omega)).2⟩⟩)
          have HB7 := Lib.hid (hb6.out.setCell (p := ⟨Q, 9, none⟩) HLO.out.1 (.slice A6 (k + 1) c6))
          have hc7 := hHeld.far (p := ⟨Q, 9, none⟩) (fun e => ne_ty hq6.out hHeld (by decide) e) (.slice A6 (k + 1) c6)
          refine hK.out _ _ hc7 (fun hHeld => ?_)
          clear hK K d9 f9 l9 e7 neR hc7
          try simp only [Act.put, tkA, tkB, tkC]
          generalize w6.setCell ⟨Q, 9, none⟩ (.slice A6 (k + 1) c6) = w7 at hHeld HQ7 HS7 HT7 HJ7 HB7 ⊢
          refine wpAnyH_done (by as_aux_lemma => kernel_rfl) ?_ _
          go_wp2_with fail
          go_roundw
          case rel => exact ⟨k + 1, (.slice A6 (k + 1) c6), upd Jb k nb, by omega, by go_num, Lib.hid ⟨HQ7.out, HS7.out, HT7.out⟩, Lib.hid hHeld, HJ7, HB7⟩
          case measure => simp [intOf]; omega
        refine AllReadyH.cons rfl (fun K hK => ?_) AllReadyH.nil
        have hmr := HMR.out WD
        go_simp
        clear hmr
        have HQ2 := Lib.hid (HQB.out.below (w' := WD.alloc (Obj.cells (madeCells #[.int .i64 0, .int .i64 0, .int .i64 0, .int .i64 0, .int .i64 0, .int .i64 0] (n * 6)) 65)) (by go_grown))
        have HS2 := Lib.hid (HSR.out.below (w' := WD.alloc (Obj.cells (madeCells #[.int .i64 0, .int .i64 0, .int .i64 0, .int .i64 0, .int .i64 0, .int .i64 0] (n * 6)) 65)) (by go_grown))
        have HT2 := Lib.hid (HTR.out.below (w' := WD.alloc (Obj.cells (madeCells #[.int .i64 0, .int .i64 0, .int .i64 0, .int .i64 0, .int .i64 0, .int .i64 0] (n * 6)) 65)) (by go_grown))
        have HJ2 := Lib.hid (show JR w.heap.size k n jv Jb (WD.alloc (Obj.cells (madeCells #[.int .i64 0, .int .i64 0, .int .i64 0, .int .i64 0, .int .i64 0, .int .i64 0] (n * 6)) 65)) from ⟨rkept HJD.out.row (by go_grown), fun i hi => ⟨(Below.heap_alloc _ _ _ (blk_lt (HJD.out.b i hi).1)).trans (HJD.out.b i hi).1, (HJD.out.b i hi).2⟩⟩)
        have NX := Lib.hid HBD.out.size
        have HB2 := Lib.hid (HBD.out.alloc HBD.out.size (Obj.cells (madeCells #[.int .i64 0, .int .i64 0, .int .i64 0, .int .i64 0, .int .i64 0, .int .i64 0] (n * 6)) 65))
        have HN11 := Lib.hid (heap_alloc_new WD (Obj.cells (madeCells #[.int .i64 0, .int .i64 0, .int .i64 0, .int .i64 0, .int .i64 0, .int .i64 0] (n * 6)) 65))
        refine hK.out _ _ (hHeld.below (w' := WD.alloc (Obj.cells (madeCells #[.int .i64 0, .int .i64 0, .int .i64 0, .int .i64 0, .int .i64 0, .int .i64 0] (n * 6)) 65)) (by go_grown)) (fun hHeld => ?_)
        clear hK K HQB HSR HTR HJD HBD
        have HQB := HQ2
        have HSR := HS2
        have HTR := HT2
        have HJD := HJ2
        have HBD := HB2
        clear HQ2 HS2 HT2 HJ2 HB2
        try simp only [Act.put, tkA, tkB, tkC]
        generalize WD.alloc (Obj.cells (madeCells #[.int .i64 0, .int .i64 0, .int .i64 0, .int .i64 0, .int .i64 0, .int .i64 0] (n * 6)) 65) = W11 at hHeld HQB HSR HTR HJD HBD HN11 ⊢
        generalize WD.heap.size = nb at HN11 NX ⊢
        have NNB := NX
        clear NX
        refine wpAnyH_ready (rs := [4, 12]) (by as_aux_lemma => kernel_rfl) (by simp) ?_
        refine AllReadyH.cons rfl (fun K hK => ?_) ?_
        · have d9 := HQB.out.bl.cell 9 _ rfl
          have l9 := HQB.out.bl.lt
          go_simp
          refine hK.out _ _ hHeld (fun hHeld => ?_)
          clear hK K d9 l9
          try simp only [Act.put, tkA, tkB, tkC]
          refine wpAnyH_ready (rs := [12]) (by as_aux_lemma => kernel_rfl) (by simp) ?_
          refine AllReadyH.cons rfl (fun K hK => ?_) AllReadyH.nil
          go_simp
          have HQ2 := Lib.hid (HQB.out.below (w' := W11.alloc (Obj.cells #[.slice (some ⟨nb, 0, none⟩) n n] 140)) (by go_grown))
          have HS2 := Lib.hid (HSR.out.below (w' := W11.alloc (Obj.cells #[.slice (some ⟨nb, 0, none⟩) n n] 140)) (by go_grown))
          have HT2 := Lib.hid (HTR.out.below (w' := W11.alloc (Obj.cells #[.slice (some ⟨nb, 0, none⟩) n n] 140)) (by go_grown))
          have HJ2 := Lib.hid (show JR w.heap.size k n jv Jb (W11.alloc (Obj.cells #[.slice (some ⟨nb, 0, none⟩) n n] 140)) from ⟨rkept HJD.out.row (by go_grown), fun i hi => ⟨(Below.heap_alloc _ _ _ (blk_lt (HJD.out.b i hi).1)).trans (HJD.out.b i hi).1, (HJD.out.b i hi).2⟩⟩)
          have NX := Lib.hid HBD.out.size
          have HB2 := Lib.hid (HBD.out.alloc HBD.out.size (Obj.cells #[.slice (some ⟨nb, 0, none⟩) n n] 140))
          have HRD := Lib.hid (reads_newN W11 1 1 [.slice (some ⟨nb, 0, none⟩) n n] 140 rfl)
          have HN12 := Lib.hid ((Below.heap_alloc W11 (Obj.cells #[.slice (some ⟨nb, 0, none⟩) n n] 140) nb (blk_lt HN11.out)).trans HN11.out)
          refine hK.out _ _ (hHeld.below (w' := W11.alloc (Obj.cells #[.slice (some ⟨nb, 0, none⟩) n n] 140)) (by go_grown)) (fun hHeld => ?_)
          clear hK K HQB HSR HTR HJD HBD
          have HQB := HQ2
          have HSR := HS2
          have HTR := HT2
          have HJD := HJ2
          have HBD := HB2
          clear HQ2 HS2 HT2 HJ2 HB2
          try simp only [Act.put, tkA, tkB, tkC]
          generalize hW12 : W11.alloc (Obj.cells #[.slice (some ⟨nb, 0, none⟩) n n] 140) = W12 at hHeld HQB HSR HTR HJD HBD HN12 ⊢
          have HRD2 := Lib.hid (show Reads W12 (W11.heap.size + 1) 1 (some ⟨W11.heap.size, 0, none⟩) 1 [.slice (some ⟨nb, 0, none⟩) n n] from by rw [← hW12]; exact HRD.out)
          clear NX HRD hW12
          generalize W11.heap.size = rb at HRD2 ⊢
          have NVV := Lib.hid (show ∀ zz ∈ ([.slice (some ⟨nb, 0, none⟩) n n] : List Value), zz.oneCell' = true from by
            intro zz hz
            simp only [List.mem_cons, List.not_mem_nil, or_false] at hz
            subst hz; rfl)
          refine wpAnyH_ready (rs := [13]) (by as_aux_lemma => kernel_rfl) (by simp) ?_
          refine AllReadyH.cons rfl (fun K hK => ?_) AllReadyH.nil
          refine step_append_any _ (by rfl) (.tmp 27) (.tmp 35) 31 (by rfl) w.heap.size 140 i0 (.slice none 0 0) 1 24 Try.underlying31 HI0.out HZ0.out HZ1.out HZ2.out rfl (by decide) jv k (jl Jb n k) (by rfl) HJD.out.row (rb + 1) (some ⟨rb, 0, none⟩) 1 1 [.slice (some ⟨nb, 0, none⟩) n n] (by rfl) HRD2.out NVV.out (by have := HK24.out; unfold maxLen; omega) (by have := HK24.out; omega) HBD.out.size ?_
          intro v6 w6 hown6 hgrow6 hblk6
          obtain ⟨A6, c6, rfl⟩ := oshape hown6
          have NOQ := own_ne HJD.out.row HQB.out (by decide)
          have NOC := own_ne HJD.out.row hHeld (by decide)
          have NOR := own_ne HJD.out.row HN12.out (by decide)
          have hq6 := Lib.hid (HQB.out.grown hgrow6 NOQ)
          have hs6 := Lib.hid (HSR.out.keep (hgrow6.block SB HSR.out.lt (fun e => by obtain ⟨cs, hc1, _⟩ := HSR.out; exact own_ne HJD.out.row hc1 (by decide) e.symm)))
          have ht6 := Lib.hid (HTR.out.keep (hgrow6.block TB HTR.out.lt (fun e => by obtain ⟨cs, hc1, _⟩ := HTR.out; exact own_ne HJD.out.row hc1 (by decide) e.symm)))
          have hb6 := Lib.hid (Below.grown HBD.out hgrow6 HBD.out.size fun k e => (HJD.out.row.lt k e).1)
          have hn6 := Lib.hid ((hgrow6.block nb (blk_lt HN12.out) (fun e => NOR e.symm)).trans HN12.out)
          have hj6 := Lib.hid (show ∀ i, i < k → w6.heap[Jb i]? = some (.cells (madeCells #[.int .i64 0, .int .i64 0, .int .i64 0, .int .i64 0, .int .i64 0, .int .i64 0] (n * 6)) 65 (0, 0)) ∧ w.heap.size ≤ Jb i from fun i hi => ⟨(hgrow6.block (Jb i) (blk_lt (HJD.out.b i hi).1) (fun e => own_ne HJD.out.row (HJD.out.b i hi).1 (by decide) e.symm)).trans (HJD.out.b i hi).1, (HJD.out.b i hi).2⟩)
          have hr6 := Lib.hid hown6
          have NO6 := Lib.hid (own_ne hown6 hq6.out (by decide))
          refine hK.out _ _ (hHeld.grown hgrow6 NOC) (fun hHeld => ?_)
          clear hK K hown6 hgrow6 hblk6 NOQ NOC NOR HQB HSR HTR HJD HBD HN12 HN11 HRD2 NVV
          try simp only [Act.put, tkA, tkB, tkC]
          refine tk (i := 14) (d := some 37) (v := ?_) (hy := Or.inl ⟨by rfl, ?_⟩) (h := ?_)
          rotate_left
          · intro wq hSw
            go_simp
            try with_reducible rfl
          simp only [Act.put, tkA, tkB, tkC]
          refine tk (i := 15) (d := some 38) (v := ?_) (hy := Or.inl ⟨by rfl, ?_⟩) (h := ?_)
          rotate_left
          · intro wq hSw
            go_simp
            try with_reducible rfl
          simp only [Act.put, tkA, tkB, tkC]
          refine wpAnyH_ready (rs := [16]) (by as_aux_lemma => kernel_rfl) (by simp) ?_
          refine AllReadyH.cons rfl (fun K hK => ?_) AllReadyH.nil
          have d9 := hq6.out.bl.cell 9 _ rfl
          have f9 := hq6.out.bl.frz 9
          have l9 := hq6.out.bl.lt
          go_simp
          have HQ7 := Lib.hid (show BT Q 34 [.int .i64 (C.p : Int), .int .i64 (C.c : Int), .int .i64 C.n, .int .i64 C.b, .int .i64 C.r, .int .i64 (C.f : Int), .int .i64 (C.g : Int), .slice (some ⟨SB, 0, none⟩) C.A C.A, .slice (some ⟨TB, 0, none⟩) C.A C.A, (.slice A6 (k + 1) c6), .int .i64 0, .slice none 0 0, .int .i64 0] (w6.setCell ⟨Q, 9, none⟩ (.slice A6 (k + 1) c6)) from hq6.out.set 9 (.slice A6 (k + 1) c6))
          have e7 : ∀ x, x ≠ Q → (w6.setCell ⟨Q, 9, none⟩ (.slice A6 (k + 1) c6)).heap[x]? = w6.heap[x]? := fun x hx => Below.heap_setCell w6 ⟨Q, 9, none⟩ (.slice A6 (k + 1) c6) x hx
          have HS7 := Lib.hid (hs6.out.keep (e7 SB (fun e => by obtain ⟨cs, hc1, _⟩ := hs6.out; exact ne_ty hc1 hq6.out (by decide) e)))
          have HT7 := Lib.hid (ht6.out.keep (e7 TB (fun e => by obtain ⟨cs, hc1, _⟩ := ht6.out; exact ne_ty hc1 hq6.out (by decide) e)))
          have neR : ∀ x cs, w6.heap[x]? = some (.cells cs 65 (0, 0)) → x ≠ Q := fun x cs hx e => ne_ty hx hq6.out (by decide) e
          have HJ7 := Lib.hid (show JR w.heap.size (k + 1) n (.slice A6 (k + 1) c6) (upd Jb k nb) (w6.setCell ⟨Q, 9, none⟩ (.slice A6 (k + 1) c6)) from ⟨by
            have hr := row_loc (w' := w6.setCell ⟨Q, 9, none⟩ (.slice A6 (k + 1) c6)) hr6.out (fun x hx _ => e7 x (fun e => NO6.out (by rw [hx, e])))
            show World.ownsRow _ _ _ _ _ _ (jl (upd Jb k nb) n k ++ [.slice (some ⟨upd Jb k nb k, 0, none⟩) n n])
            rw [jl_upd Jb n k nb k (Nat.le_refl _), upd_at]
            exact hr, fun i hi => by
            by_cases e : i = k
            · subst e; rw [upd_at]; exact ⟨(e7 nb (neR nb _ hn6.out)).trans hn6.out, NNB.out⟩
            · rw [upd_ne Jb nb e]; exact ⟨(e7 (Jb i) (neR _ _ (hj6.out i (by omega)).1)).trans (hj6.out i (by omega)).1, (hj6.out i (by omega)).2⟩⟩)
          have HB7 := Lib.hid (hb6.out.setCell (p := ⟨Q, 9, none⟩) HLO.out.1 (.slice A6 (k + 1) c6))
          have hc7 := hHeld.far (p := ⟨Q, 9, none⟩) (fun e => ne_ty hq6.out hHeld (by decide) e) (.slice A6 (k + 1) c6)
          refine hK.out _ _ hc7 (fun hHeld => ?_)
          clear hK K d9 f9 l9 e7 neR hc7
          try simp only [Act.put, tkA, tkB, tkC]
          generalize w6.setCell ⟨Q, 9, none⟩ (.slice A6 (k + 1) c6) = w7 at hHeld HQ7 HS7 HT7 HJ7 HB7 ⊢
          refine wpAnyH_done (by as_aux_lemma => kernel_rfl) ?_ _
          go_wp2_with fail
          go_roundw
          case rel => exact ⟨k + 1, (.slice A6 (k + 1) c6), upd Jb k nb, by omega, by go_num, Lib.hid ⟨HQ7.out, HS7.out, HT7.out⟩, Lib.hid hHeld, HJ7, HB7⟩
          case measure => simp [intOf]; omega
        refine AllReadyH.cons rfl (fun K hK => ?_) AllReadyH.nil
        go_simp
        have HQ2 := Lib.hid (HQB.out.below (w' := W11.alloc (Obj.cells #[.slice (some ⟨nb, 0, none⟩) n n] 140)) (by go_grown))
        have HS2 := Lib.hid (HSR.out.below (w' := W11.alloc (Obj.cells #[.slice (some ⟨nb, 0, none⟩) n n] 140)) (by go_grown))
        have HT2 := Lib.hid (HTR.out.below (w' := W11.alloc (Obj.cells #[.slice (some ⟨nb, 0, none⟩) n n] 140)) (by go_grown))
        have HJ2 := Lib.hid (show JR w.heap.size k n jv Jb (W11.alloc (Obj.cells #[.slice (some ⟨nb, 0, none⟩) n n] 140)) from ⟨rkept HJD.out.row (by go_grown), fun i hi => ⟨(Below.heap_alloc _ _ _ (blk_lt (HJD.out.b i hi).1)).trans (HJD.out.b i hi).1, (HJD.out.b i hi).2⟩⟩)
        have NX := Lib.hid HBD.out.size
        have HB2 := Lib.hid (HBD.out.alloc HBD.out.size (Obj.cells #[.slice (some ⟨nb, 0, none⟩) n n] 140))
        have HRD := Lib.hid (reads_newN W11 1 1 [.slice (some ⟨nb, 0, none⟩) n n] 140 rfl)
        have HN12 := Lib.hid ((Below.heap_alloc W11 (Obj.cells #[.slice (some ⟨nb, 0, none⟩) n n] 140) nb (blk_lt HN11.out)).trans HN11.out)
        refine hK.out _ _ (hHeld.below (w' := W11.alloc (Obj.cells #[.slice (some ⟨nb, 0, none⟩) n n] 140)) (by go_grown)) (fun hHeld => ?_)
        clear hK K HQB HSR HTR HJD HBD
        have HQB := HQ2
        have HSR := HS2
        have HTR := HT2
        have HJD := HJ2
        have HBD := HB2
        clear HQ2 HS2 HT2 HJ2 HB2
        try simp only [Act.put, tkA, tkB, tkC]
        generalize hW12 : W11.alloc (Obj.cells #[.slice (some ⟨nb, 0, none⟩) n n] 140) = W12 at hHeld HQB HSR HTR HJD HBD HN12 ⊢
        have HRD2 := Lib.hid (show Reads W12 (W11.heap.size + 1) 1 (some ⟨W11.heap.size, 0, none⟩) 1 [.slice (some ⟨nb, 0, none⟩) n n] from by rw [← hW12]; exact HRD.out)
        clear NX HRD hW12
        generalize W11.heap.size = rb at HRD2 ⊢
        refine wpAnyH_ready (rs := [4]) (by as_aux_lemma => kernel_rfl) (by simp) ?_
        refine AllReadyH.cons rfl (fun K hK => ?_) AllReadyH.nil
        have d9 := HQB.out.bl.cell 9 _ rfl
        have l9 := HQB.out.bl.lt
        go_simp
        refine hK.out _ _ hHeld (fun hHeld => ?_)
        clear hK K d9 l9
        try simp only [Act.put, tkA, tkB, tkC]
        have NVV := Lib.hid (show ∀ zz ∈ ([.slice (some ⟨nb, 0, none⟩) n n] : List Value), zz.oneCell' = true from by
          intro zz hz
          simp only [List.mem_cons, List.not_mem_nil, or_false] at hz
          subst hz; rfl)
        refine wpAnyH_ready (rs := [13]) (by as_aux_lemma => kernel_rfl) (by simp) ?_
        refine AllReadyH.cons rfl (fun K hK => ?_) AllReadyH.nil
        refine step_append_any _ (by rfl) (.tmp 27) (.tmp 35) 31 (by rfl) w.heap.size 140 i0 (.slice none 0 0) 1 24 Try.underlying31 HI0.out HZ0.out HZ1.out HZ2.out rfl (by decide) jv k (jl Jb n k) (by rfl) HJD.out.row (rb + 1) (some ⟨rb, 0, none⟩) 1 1 [.slice (some ⟨nb, 0, none⟩) n n] (by rfl) HRD2.out NVV.out (by have := HK24.out; unfold maxLen; omega) (by have := HK24.out; omega) HBD.out.size ?_
        intro v6 w6 hown6 hgrow6 hblk6
        obtain ⟨A6, c6, rfl⟩ := oshape hown6
        have NOQ := own_ne HJD.out.row HQB.out (by decide)
        have NOC := own_ne HJD.out.row hHeld (by decide)
        have NOR := own_ne HJD.out.row HN12.out (by decide)
        have hq6 := Lib.hid (HQB.out.grown hgrow6 NOQ)
        have hs6 := Lib.hid (HSR.out.keep (hgrow6.block SB HSR.out.lt (fun e => by obtain ⟨cs, hc1, _⟩ := HSR.out; exact own_ne HJD.out.row hc1 (by decide) e.symm)))
        have ht6 := Lib.hid (HTR.out.keep (hgrow6.block TB HTR.out.lt (fun e => by obtain ⟨cs, hc1, _⟩ := HTR.out; exact own_ne HJD.out.row hc1 (by decide) e.symm)))
        have hb6 := Lib.hid (Below.grown HBD.out hgrow6 HBD.out.size fun k e => (HJD.out.row.lt k e).1)
        have hn6 := Lib.hid ((hgrow6.block nb (blk_lt HN12.out) (fun e => NOR e.symm)).trans HN12.out)
        have hj6 := Lib.hid (show ∀ i, i < k → w6.heap[Jb i]? = some (.cells (madeCells #[.int .i64 0, .int .i64 0, .int .i64 0, .int .i64 0, .int .i64 0, .int .i64 0] (n * 6)) 65 (0, 0)) ∧ w.heap.size ≤ Jb i from fun i hi => ⟨(hgrow6.block (Jb i) (blk_lt (HJD.out.b i hi).1) (fun e => own_ne HJD.out.row (HJD.out.b i hi).1 (by decide) e.symm)).trans (HJD.out.b i hi).1, (HJD.out.b i hi).2⟩)
        have hr6 := Lib.hid hown6
        have NO6 := Lib.hid (own_ne hown6 hq6.out (by decide))
        refine hK.out _ _ (hHeld.grown hgrow6 NOC) (fun hHeld => ?_)
        clear hK K hown6 hgrow6 hblk6 NOQ NOC NOR HQB HSR HTR HJD HBD HN12 HN11 HRD2 NVV
        try simp only [Act.put, tkA, tkB, tkC]
        refine tk (i := 14) (d := some 37) (v := ?_) (hy := Or.inl ⟨by rfl, ?_⟩) (h := ?_)
        rotate_left
        · intro wq hSw
          go_simp
          try with_reducible rfl
        simp only [Act.put, tkA, tkB, tkC]
        refine tk (i := 15) (d := some 38) (v := ?_) (hy := Or.inl ⟨by rfl, ?_⟩) (h := ?_)
        rotate_left
        · intro wq hSw
          go_simp
          try with_reducible rfl
        simp only [Act.put, tkA, tkB, tkC]
        refine wpAnyH_ready (rs := [16]) (by as_aux_lemma => kernel_rfl) (by simp) ?_
        refine AllReadyH.cons rfl (fun K hK => ?_) AllReadyH.nil
        have d9 := hq6.out.bl.cell 9 _ rfl
        have f9 := hq6.out.bl.frz 9
        have l9 := hq6.out.bl.lt
        go_simp
        have HQ7 := Lib.hid (show BT Q 34 [.int .i64 (C.p : Int), .int .i64 (C.c : Int), .int .i64 C.n, .int .i64 C.b, .int .i64 C.r, .int .i64 (C.f : Int), .int .i64 (C.g : Int), .slice (some ⟨SB, 0, none⟩) C.A C.A, .slice (some ⟨TB, 0, none⟩) C.A C.A, (.slice A6 (k + 1) c6), .int .i64 0, .slice none 0 0, .int .i64 0] (w6.setCell ⟨Q, 9, none⟩ (.slice A6 (k + 1) c6)) from hq6.out.set 9 (.slice A6 (k + 1) c6))
        have e7 : ∀ x, x ≠ Q → (w6.setCell ⟨Q, 9, none⟩ (.slice A6 (k + 1) c6)).heap[x]? = w6.heap[x]? := fun x hx => Below.heap_setCell w6 ⟨Q, 9, none⟩ (.slice A6 (k + 1) c6) x hx
        have HS7 := Lib.hid (hs6.out.keep (e7 SB (fun e => by obtain ⟨cs, hc1, _⟩ := hs6.out; exact ne_ty hc1 hq6.out (by decide) e)))
        have HT7 := Lib.hid (ht6.out.keep (e7 TB (fun e => by obtain ⟨cs, hc1, _⟩ := ht6.out; exact ne_ty hc1 hq6.out (by decide) e)))
        have neR : ∀ x cs, w6.heap[x]? = some (.cells cs 65 (0, 0)) → x ≠ Q := fun x cs hx e => ne_ty hx hq6.out (by decide) e
        have HJ7 := Lib.hid (show JR w.heap.size (k + 1) n (.slice A6 (k + 1) c6) (upd Jb k nb) (w6.setCell ⟨Q, 9, none⟩ (.slice A6 (k + 1) c6)) from ⟨by
          have hr := row_loc (w' := w6.setCell ⟨Q, 9, none⟩ (.slice A6 (k + 1) c6)) hr6.out (fun x hx _ => e7 x (fun e => NO6.out (by rw [hx, e])))
          show World.ownsRow _ _ _ _ _ _ (jl (upd Jb k nb) n k ++ [.slice (some ⟨upd Jb k nb k, 0, none⟩) n n])
          rw [jl_upd Jb n k nb k (Nat.le_refl _), upd_at]
          exact hr, fun i hi => by
          by_cases e : i = k
          · subst e; rw [upd_at]; exact ⟨(e7 nb (neR nb _ hn6.out)).trans hn6.out, NNB.out⟩
          · rw [upd_ne Jb nb e]; exact ⟨(e7 (Jb i) (neR _ _ (hj6.out i (by omega)).1)).trans (hj6.out i (by omega)).1, (hj6.out i (by omega)).2⟩⟩)
        have HB7 := Lib.hid (hb6.out.setCell (p := ⟨Q, 9, none⟩) HLO.out.1 (.slice A6 (k + 1) c6))
        have hc7 := hHeld.far (p := ⟨Q, 9, none⟩) (fun e => ne_ty hq6.out hHeld (by decide) e) (.slice A6 (k + 1) c6)
        refine hK.out _ _ hc7 (fun hHeld => ?_)
        clear hK K d9 f9 l9 e7 neR hc7
        try simp only [Act.put, tkA, tkB, tkC]
        generalize w6.setCell ⟨Q, 9, none⟩ (.slice A6 (k + 1) c6) = w7 at hHeld HQ7 HS7 HT7 HJ7 HB7 ⊢
        refine wpAnyH_done (by as_aux_lemma => kernel_rfl) ?_ _
        go_wp2_with fail
        go_roundw
        case rel => exact ⟨k + 1, (.slice A6 (k + 1) c6), upd Jb k nb, by omega, by go_num, Lib.hid ⟨HQ7.out, HS7.out, HT7.out⟩, Lib.hid hHeld, HJ7, HB7⟩
        case measure => simp [intOf]; omega
      · obtain rfl : k = C.A := by omega
        have hd : decide ((C.A : Int) < (C.A : Int)) = false := decide_eq_false (by omega)
        go_wp2_with fail
        go_ret
        exact ⟨Q, SB, TB, jv, Jb, rfl, HQW.out, HJR.out, HLO.out, HBB.out⟩
end
end Go.Proofs.Ytmjkhefgpobinaa

/-
  Texts of the machine of pairs, part 31.
-/
import Derived.BigRegion
import Derived.BigGuard
import Derived.BigCall
import Derived.Test.YtmjkhefgpobinaaM1
import Derived.Test.YtmjkhefgpobinaaM2
import Derived.Test.YtmjkhefgpobinaaM27
import Derived.Test.YtmjkhefgpobinaaM29
import Derived.Test.YtmjkhefgpobinaaM30
namespace Go.Proofs.Ytmjkhefgpobinaa
open Go.ChangeShapes Go.WideShapes Go.ChangeAt Go.RowKit
/-- An order that may stand in a cell. -/
structure OrdOk (C : Cfg) (i : Nat) (o : Odr) : Prop where
  i : i < C.A
  s : FitS o.s
  t : FitT5 o.t
  g : 1 ≤ o.s.gen ∧ o.s.gen ≤ (C.g : Int)
  l : 1 ≤ o.s.left
  f : o.s.fills < (C.f : Int)
  k : o.s.kind = 1 ∨ o.s.kind = 2 ∨ 5 ≤ o.s.kind
  fl : o.s.flag = false
  c : Chk C.n o.t (max o.s.left o.t.l)
def Rc0 : Rc := ⟨0, 0, 0, 0, 0, 0⟩
def Sg (g : Nat → Odr) (k : Nat) : Nat → Cs := fun j => if j < k then (g j).s else S0
def Tg (g : Nat → Odr) (k : Nat) : Nat → Tm5 := fun j => if j < k then (g j).t else T0
theorem Sg_succ (g : Nat → Odr) (k : Nat) : Sg g (k + 1) = upd (Sg g k) k (g k).s := by
  funext j; unfold Sg upd
  by_cases h : j = k
  · subst h; rw [if_pos (by omega), if_pos rfl]
  · rw [if_neg h]
    dsimp only
    by_cases h2 : j < k
    · rw [if_pos (by omega), if_pos h2]
    · rw [if_neg (by omega), if_neg h2]
theorem Tg_succ (g : Nat → Odr) (k : Nat) : Tg g (k + 1) = upd (Tg g k) k (g k).t := by
  funext j; unfold Tg upd
  by_cases h : j = k
  · subst h; rw [if_pos (by omega), if_pos rfl]
  · rw [if_neg h]
    dsimp only
    by_cases h2 : j < k
    · rw [if_pos (by omega), if_pos h2]
    · rw [if_neg (by omega), if_neg h2]
theorem rel_zero (C : Cfg) (g : Nat → Odr) : Rel C (fun _ => 0) (Sg g 0) (Tg g 0) (fun _ => Rc0) := by
  refine ⟨fun i _ => ?_, fun i _ => ?_, fun a _ _ => ?_⟩
  · have e : Sg g 0 i = S0 := if_neg (Nat.not_lt_zero i)
    rw [e]
    exact ⟨by show (0 : Int) = (cw S0 : Int); unfold S0; rw [cw_zero]; rfl, fit_zero, by decide⟩
  · have e : Tg g 0 i = T0 := if_neg (Nat.not_lt_zero i)
    rw [e]
    exact ⟨by show (0 : Int) = (tw T0 : Int); unfold T0; rw [tw_zero]; rfl, fitT_zero, Or.inr rfl⟩
  · exact ⟨by show (0 : Int) = (rw_ Rc0 : Int); have : rw_ Rc0 = 0 := by decide
              rw [this]; rfl, fitR_of (by decide) (by decide) (by decide) (by decide) (by decide) (by decide)⟩
/-- Both worlds, as they were made. -/
structure BothAt (C : Cfg) (K W M B Ck Q SB TB : Nat) (ws : Nat → Int) (jv : Value) (Jb : Nat → Nat) (KJ : Nat) (k : Nat) (g : Nat → Odr) (w : World) : Prop where
  p : PW K C W M B Ck ws (2 * (k : Int)) 0 (.slice none 0 0) [] w
  r : Rel C ws (Sg g k) (Tg g k) (fun _ => Rc0)
  q : QW Q SB TB C (Sg g k) (Tg g k) jv w
  j : JR KJ C.A (C.g * (C.f + 1)) jv Jb w
  lo : K ≤ KJ ∧ KJ ≤ Q ∧ KJ ≤ SB ∧ KJ ≤ TB
  ok : ∀ i, i < k → OrdOk C i (g i)
theorem BothAt.below {C : Cfg} {K W M B Ck Q SB TB KJ k : Nat} {ws : Nat → Int} {jv : Value} {Jb : Nat → Nat} {g : Nat → Odr} {w w' : World} (h : BothAt C K W M B Ck Q SB TB ws jv Jb KJ k g w) (hb : Below w.heap.size w w') : BothAt C K W M B Ck Q SB TB ws jv Jb KJ k g w' :=
  ⟨h.p.below hb, h.r, h.q.below hb, ⟨rkept h.j.row hb, fun i hi => ⟨(hb.block _ (blk_lt (h.j.b i hi).1)).trans (h.j.b i hi).1, (h.j.b i hi).2⟩⟩, h.lo, h.ok⟩
/-- Both gives both. -/
def BothYes (C : Cfg) (len : Nat) (g : Nat → Odr) (w : World) (e : Ending) (w' : World) : Prop :=
  ∃ K W M B Ck Q SB TB ws jv Jb KJ, e = .returned (.tuple #[.pointer (some ⟨W, 0, none⟩), .pointer (some ⟨Q, 0, none⟩), .bool true]) ∧ BothAt C K W M B Ck Q SB TB ws jv Jb KJ len g w' ∧ (w.heap.size ≤ W ∧ w.heap.size ≤ M ∧ w.heap.size ≤ B ∧ w.heap.size ≤ Ck) ∧ Below w.heap.size w w'
def BothNo (w : World) (e : Ending) (w' : World) : Prop := e = .returned (.tuple #[.pointer none, .pointer none, .bool false]) ∧ Below w.heap.size w w'
theorem tw_lt (t : Tm5) (h : FitT5 t) : tw t < 18446744073709551616 := by
  have h1 := word_lt sht_steps h 5 (Nat.le_refl _)
  have h2 : (2 : Nat) ^ (sht 5).toNat ≤ 18446744073709551616 := by decide
  exact Nat.lt_of_lt_of_le h1 h2
theorem five (cs : Array Value) (o : Nat) (v0 v1 v2 v3 v4 : Value) (h : o + 5 ≤ cs.size) (m : Nat) : (((((cs.setIfInBounds o v0).setIfInBounds (o + 1) v1).setIfInBounds (o + 2) v2).setIfInBounds (o + 3) v3).setIfInBounds (o + 4) v4)[m]? = if m = o + 4 then some v4 else if m = o + 3 then some v3 else if m = o + 2 then some v2 else if m = o + 1 then some v1 else if m = o then some v0 else cs[m]? := by
  simp only [Array.getElem?_setIfInBounds, Array.size_setIfInBounds]
  by_cases h4 : m = o + 4
  · subst h4; rw [if_pos rfl, if_pos (by omega), if_pos rfl]
  · rw [if_neg (fun e => h4 e.symm), if_neg h4]
    by_cases h3 : m = o + 3
    · subst h3; rw [if_pos rfl, if_pos (by omega), if_pos rfl]
    · rw [if_neg (fun e => h3 e.symm), if_neg h3]
      by_cases h2 : m = o + 2
      · subst h2; rw [if_pos rfl, if_pos (by omega), if_pos rfl]
      · rw [if_neg (fun e => h2 e.symm), if_neg h2]
        by_cases h1 : m = o + 1
        · subst h1; rw [if_pos rfl, if_pos (by omega), if_pos rfl]
        · rw [if_neg (fun e => h1 e.symm), if_neg h1]
          by_cases h0 : m = o
          · subst h0; rw [if_pos rfl, if_pos (by omega), if_pos rfl]
          · rw [if_neg (fun e => h0 e.symm), if_neg h0]
theorem blk_five {w : World} {g : Nat} {t : TypeId} {cs : Array Value} (h : w.heap[g]? = some (.cells cs t (0, 0))) (o : Nat) (v0 v1 v2 v3 v4 : Value) : (w.setCells g o [v0, v1, v2, v3, v4]).heap[g]? = some (.cells (((((cs.setIfInBounds o v0).setIfInBounds (o + 1) v1).setIfInBounds (o + 2) v2).setIfInBounds (o + 3) v3).setIfInBounds (o + 4) v4) t (0, 0)) :=
  blk_set (blk_set (blk_set (blk_set (blk_set h o v0) (o + 1) v1) (o + 2) v2) (o + 3) v3) (o + 4) v4
theorem SRow.size {SB A : Nat} {S : Nat → Cs} {w : World} (h : SRow SB A S w) (k : Nat) (hk : k < A) : ∃ cs, w.heap[SB]? = some (.cells cs 42 (0, 0)) ∧ k * 5 + 5 ≤ cs.size := by
  obtain ⟨cs, h1, h2⟩ := h
  obtain ⟨_, _, _, _, h3⟩ := h2 k hk
  obtain ⟨h4, _⟩ := Array.getElem?_eq_some_iff.1 h3
  exact ⟨cs, h1, by omega⟩
theorem TRow.size {SB A : Nat} {S : Nat → Tm5} {w : World} (h : TRow SB A S w) (k : Nat) (hk : k < A) : ∃ cs, w.heap[SB]? = some (.cells cs 44 (0, 0)) ∧ k * 5 + 5 ≤ cs.size := by
  obtain ⟨cs, h1, h2⟩ := h
  obtain ⟨_, _, _, _, h3⟩ := h2 k hk
  obtain ⟨h4, _⟩ := Array.getElem?_eq_some_iff.1 h3
  exact ⟨cs, h1, by omega⟩
theorem there_of {w : World} {g : Nat} {t : TypeId} {cs : Array Value} (h : w.heap[g]? = some (.cells cs t (0, 0))) (o n : Nat) (hn : o + n ≤ cs.size) : w.there g o n := fun j hj => by
  refine ⟨?_, blk_frozen h _⟩
  rw [cell_of_row _ _ _ _ _ _ h]
  simp; omega
theorem SRow.set {SB A : Nat} {S : Nat → Cs} {w : World} (h : SRow SB A S w) (k : Nat) (hk : k < A) (s : Cs) : SRow SB A (upd S k s) (w.setCells SB (k * 5) [.int .i64 s.kind, .bool s.flag, .int .i64 s.gen, .int .i64 s.left, .int .i64 s.fills]) := by
  obtain ⟨cs, h1, h2⟩ := h
  obtain ⟨_, _, _, _, h3⟩ := h2 k hk
  obtain ⟨h4, _⟩ := Array.getElem?_eq_some_iff.1 h3
  refine ⟨_, blk_five h1 (k * 5) _ _ _ _ _, fun i hi => ?_⟩
  have hf := five cs (k * 5) (.int .i64 s.kind) (.bool s.flag) (.int .i64 s.gen) (.int .i64 s.left) (.int .i64 s.fills) (by omega)
  rw [hf, hf, hf, hf, hf]
  by_cases e : i = k
  · subst e
    rw [upd_at]
    refine ⟨?_, ?_, ?_, ?_, ?_⟩
    · rw [if_neg (by omega), if_neg (by omega), if_neg (by omega), if_neg (by omega), if_pos rfl]
    · rw [if_neg (by omega), if_neg (by omega), if_neg (by omega), if_pos rfl]
    · rw [if_neg (by omega), if_neg (by omega), if_pos rfl]
    · rw [if_neg (by omega), if_pos rfl]
    · rw [if_pos rfl]
  · rw [upd_ne S s e]
    obtain ⟨a0, a1, a2, a3, a4⟩ := h2 i hi
    refine ⟨?_, ?_, ?_, ?_, ?_⟩
    · rw [if_neg (by omega), if_neg (by omega), if_neg (by omega), if_neg (by omega), if_neg (by omega)]; exact a0
    · rw [if_neg (by omega), if_neg (by omega), if_neg (by omega), if_neg (by omega), if_neg (by omega)]; exact a1
    · rw [if_neg (by omega), if_neg (by omega), if_neg (by omega), if_neg (by omega), if_neg (by omega)]; exact a2
    · rw [if_neg (by omega), if_neg (by omega), if_neg (by omega), if_neg (by omega), if_neg (by omega)]; exact a3
    · rw [if_neg (by omega), if_neg (by omega), if_neg (by omega), if_neg (by omega), if_neg (by omega)]; exact a4
theorem TRow.set {SB A : Nat} {S : Nat → Tm5} {w : World} (h : TRow SB A S w) (k : Nat) (hk : k < A) (s : Tm5) : TRow SB A (upd S k s) (w.setCells SB (k * 5) [.int .i64 s.n, .int .i64 s.s, .int .i64 s.p, .int .i64 s.l, .int .i64 s.u]) := by
  obtain ⟨cs, h1, h2⟩ := h
  obtain ⟨_, _, _, _, h3⟩ := h2 k hk
  obtain ⟨h4, _⟩ := Array.getElem?_eq_some_iff.1 h3
  refine ⟨_, blk_five h1 (k * 5) _ _ _ _ _, fun i hi => ?_⟩
  have hf := five cs (k * 5) (.int .i64 s.n) (.int .i64 s.s) (.int .i64 s.p) (.int .i64 s.l) (.int .i64 s.u) (by omega)
  rw [hf, hf, hf, hf, hf]
  by_cases e : i = k
  · subst e
    rw [upd_at]
    refine ⟨?_, ?_, ?_, ?_, ?_⟩
    · rw [if_neg (by omega), if_neg (by omega), if_neg (by omega), if_neg (by omega), if_pos rfl]
    · rw [if_neg (by omega), if_neg (by omega), if_neg (by omega), if_pos rfl]
    · rw [if_neg (by omega), if_neg (by omega), if_pos rfl]
    · rw [if_neg (by omega), if_pos rfl]
    · rw [if_pos rfl]
  · rw [upd_ne S s e]
    obtain ⟨a0, a1, a2, a3, a4⟩ := h2 i hi
    refine ⟨?_, ?_, ?_, ?_, ?_⟩
    · rw [if_neg (by omega), if_neg (by omega), if_neg (by omega), if_neg (by omega), if_neg (by omega)]; exact a0
    · rw [if_neg (by omega), if_neg (by omega), if_neg (by omega), if_neg (by omega), if_neg (by omega)]; exact a1
    · rw [if_neg (by omega), if_neg (by omega), if_neg (by omega), if_neg (by omega), if_neg (by omega)]; exact a2
    · rw [if_neg (by omega), if_neg (by omega), if_neg (by omega), if_neg (by omega), if_neg (by omega)]; exact a3
    · rw [if_neg (by omega), if_neg (by omega), if_neg (by omega), if_neg (by omega), if_neg (by omega)]; exact a4
theorem heap_setCells_ne (w : World) (g o : Nat) (vs : List Value) (x : Nat) (hx : x ≠ g) : (w.setCells g o vs).heap[x]? = w.heap[x]? := by
  induction vs generalizing w o with
  | nil => rfl
  | cons v r ih => show ((w.setCell ⟨g, o, none⟩ v).setCells g (o + 1) r).heap[x]? = _; rw [ih]; exact Below.heap_setCell w ⟨g, o, none⟩ v x hx
theorem PW.nilfar {K : Nat} {C : Cfg} {W M B Ck : Nat} {ws : Nat → Int} {st now : Int} {w w' : World} (h : PW K C W M B Ck ws st now (.slice none 0 0) [] w) (hb : ∀ x, x < K → w'.heap[x]? = w.heap[x]?) (hs : w.heap.size ≤ w'.heap.size) : PW K C W M B Ck ws st now (.slice none 0 0) [] w' := by
  obtain ⟨l1, l2, l3, l4⟩ := h.lo
  refine ⟨?_, h.mem.far (hb M l2) (hb B l3) hs, ?_, World.ownsRow_nil _ _ _ _, h.lo, Nat.le_trans h.hK hs, h.ne⟩
  · obtain ⟨t, ht⟩ := h.blk; exact ⟨t, (hb W l1).trans ht⟩
  · obtain ⟨t, ht⟩ := h.clk; exact ⟨t, (hb Ck l4).trans ht⟩
theorem QW.blocks {Q SB TB : Nat} {C : Cfg} {S : Nat → Cs} {T : Nat → Tm5} {jv : Value} {w w' : World} (h : QW Q SB TB C S T jv w) (hb : ∀ x, x = Q ∨ x = SB ∨ x = TB → w'.heap[x]? = w.heap[x]?) : QW Q SB TB C S T jv w' :=
  ⟨(hb Q (Or.inl rfl)).trans h.blk, h.s.keep (hb SB (Or.inr (Or.inl rfl))), h.t.keep (hb TB (Or.inr (Or.inr rfl)))⟩
theorem JR.blocks {b k n : Nat} {jv : Value} {Jb : Nat → Nat} {w w' : World} (h : JR b k n jv Jb w) (h1 : ∀ x, jv.ownBlock = some x → w'.heap[x]? = w.heap[x]?) (h2 : ∀ i, i < k → w'.heap[Jb i]? = w.heap[Jb i]?) : JR b k n jv Jb w' :=
  ⟨row_loc h.row fun x hx _ => h1 x hx, fun i hi => ⟨(h2 i hi).trans (h.b i hi).1, (h.b i hi).2⟩⟩
section
variable {C : Cfg}
set_option maxRecDepth 100000 in
set_option maxHeartbeats 16000000 in
theorem both_is (hC : C.Ok) (A : Option Addr) (len cap : Nat) (g : Nat → Odr) (w : World) (h : OdsAt A len g w) : Calls Try.prog 7 #[RC C, .slice A len cap] w fun e w' => ((∀ i, i < len → OrdOk C i (g i)) ∧ BothYes C len g w e w') ∨ (¬ (∀ i, i < len → OrdOk C i (g i)) ∧ BothNo w e w') := by
  have HNE := Lib.hid (fun W' => rnew_ok (C.p : Int) (C.c : Int) C.n C.b C.r (C.f : Int) (C.g : Int) W' (by have := hC.hp; omega) (by have := hC.hc; omega) hC.hn hC.hb hC.hr (by have := hC.hf; omega) (by have := hC.hg; omega))
  have HMY := Lib.hid (fun W' => may_ok hC W')
  have HPN := Lib.hid (fun W' => pnew_is hC W')
  have HQN := Lib.hid (fun W' => rnew10_is hC W')
  unfold RC at HMY HPN HQN ⊢
  have HO := Lib.hid h
  have HC := Lib.hid hC
  clear hC h
  go_enter Try.func7, Try.ntmps7
  go_wp2_with fail
  have HCB0 := Lib.hid (BT.new w [.int .i64 (C.p : Int), .int .i64 (C.c : Int), .int .i64 C.n, .int .i64 C.b, .int .i64 C.r, .int .i64 (C.f : Int), .int .i64 (C.g : Int)] 23)
  have HB0 := Lib.hid (show Below w.heap.size w (w.alloc (Obj.cells #[.int .i64 (C.p : Int), .int .i64 (C.c : Int), .int .i64 C.n, .int .i64 C.b, .int .i64 C.r, .int .i64 (C.f : Int), .int .i64 (C.g : Int)] 23)) from by go_grown)
  refine (HNE.out _).mono ?_
  rintro e w1 ⟨rfl, hb1⟩
  have HCB1 := Lib.hid (HCB0.out.below hb1)
  have HB1 := Lib.hid (Below.step HB0.out hb1)
  have hc1 := HCB1.out.bl
  have l1 := hc1.lt
  have c0 := hc1.cell 0 _ rfl
  have c1 := hc1.cell 1 _ rfl
  have c2 := hc1.cell 2 _ rfl
  have c3 := hc1.cell 3 _ rfl
  have c4 := hc1.cell 4 _ rfl
  have c5 := hc1.cell 5 _ rfl
  have c6 := hc1.cell 6 _ rfl
  clear hb1 HCB0 HB0 hc1
  go_wp2_with fail
  have HRB2 := Lib.hid (BT.new w1 [.int .i64 (C.p : Int), .int .i64 (C.c : Int), .int .i64 C.n, .int .i64 C.b, .int .i64 C.r, .int .i64 (C.f : Int), .int .i64 (C.g : Int)] 52)
  have HCB2 := Lib.hid (HCB1.out.below (w' := w1.alloc (Obj.cells #[.int .i64 (C.p : Int), .int .i64 (C.c : Int), .int .i64 C.n, .int .i64 C.b, .int .i64 C.r, .int .i64 (C.f : Int), .int .i64 (C.g : Int)] 52)) (by go_grown))
  have HB2 := Lib.hid (HB1.out.alloc HB1.out.size (Obj.cells #[.int .i64 (C.p : Int), .int .i64 (C.c : Int), .int .i64 C.n, .int .i64 C.b, .int .i64 C.r, .int .i64 (C.f : Int), .int .i64 (C.g : Int)] 52))
  have NRB := Lib.hid HB1.out.size
  clear HCB1 HB1 c0 c1 c2 c3 c4 c5 c6 l1
  generalize w1.alloc (Obj.cells #[.int .i64 (C.p : Int), .int .i64 (C.c : Int), .int .i64 C.n, .int .i64 C.b, .int .i64 C.r, .int .i64 (C.f : Int), .int .i64 (C.g : Int)] 52) = w2 at HRB2 HCB2 HB2 ⊢
  generalize w1.heap.size = RB at HRB2 NRB ⊢
  refine (HMY.out _).mono ?_
  rintro e w3 ⟨rfl, hb3⟩
  have HCB3 := Lib.hid (HCB2.out.below hb3)
  have HRB3 := Lib.hid (HRB2.out.below hb3)
  have HB3 := Lib.hid (Below.step HB2.out hb3)
  have hr3 := HRB3.out.bl
  have l3 := hr3.lt
  have r0 := hr3.cell 0 _ rfl
  have r1 := hr3.cell 1 _ rfl
  have r2 := hr3.cell 2 _ rfl
  have r3 := hr3.cell 3 _ rfl
  have r4 := hr3.cell 4 _ rfl
  have r5 := hr3.cell 5 _ rfl
  have r6 := hr3.cell 6 _ rfl
  clear hb3 hr3 HCB2 HRB2 HB2
  go_wp2_with fail
  refine (HPN.out _).mono ?_
  rintro e w4 ⟨W, M, B, Ck, rfl, hp4, hlo4, hb4⟩
  have HP4 := Lib.hid hp4
  have HLO4 := Lib.hid hlo4
  have HLO := Lib.hid (show w.heap.size ≤ W ∧ w.heap.size ≤ M ∧ w.heap.size ≤ B ∧ w.heap.size ≤ Ck from by have := HB3.out.size; omega)
  have HRL := Lib.hid (show RB < W ∧ RB < M ∧ RB < B ∧ RB < Ck from by have := HRB3.out.bl.lt; omega)
  have HCL := Lib.hid (show w.heap.size < W ∧ w.heap.size < M ∧ w.heap.size < B ∧ w.heap.size < Ck from by have := HCB3.out.bl.lt; omega)
  have HCB4 := Lib.hid (HCB3.out.below hb4)
  have HRB4 := Lib.hid (HRB3.out.below hb4)
  have HB4 := Lib.hid (Below.step HB3.out hb4)
  have hc4 := HCB4.out.bl
  have l4 := hc4.lt
  have c0 := hc4.cell 0 _ rfl
  have c1 := hc4.cell 1 _ rfl
  have c2 := hc4.cell 2 _ rfl
  have c3 := hc4.cell 3 _ rfl
  have c4 := hc4.cell 4 _ rfl
  have c5 := hc4.cell 5 _ rfl
  have c6 := hc4.cell 6 _ rfl
  clear hp4 hlo4 hb4 HCB3 HRB3 HB3 l3 hc4 r0 r1 r2 r3 r4 r5 r6
  go_wp2_with fail
  refine (HQN.out _).mono ?_
  rintro e w5 ⟨Q, SB, TB, jv, Jb, rfl, hq5, hj5, hlo5, hb5⟩
  have HBA := Lib.hid (show BothAt C w4.heap.size W M B Ck Q SB TB (fun _ => 0) jv Jb w4.heap.size 0 g w5 from ⟨HP4.out.below hb5, rel_zero C g, hq5, hj5, ⟨Nat.le_refl _, hlo5.1, hlo5.2.1, hlo5.2.2⟩, fun i hi => absurd hi (Nat.not_lt_zero i)⟩)
  have HCB5 := Lib.hid (HCB4.out.below hb5)
  have HRB5 := Lib.hid (HRB4.out.below hb5)
  have HB5 := Lib.hid (Below.step HB4.out hb5)
  have HK4 := Lib.hid (show W < w4.heap.size ∧ M < w4.heap.size ∧ B < w4.heap.size ∧ Ck < w4.heap.size from HP4.out.lo)
  clear hq5 hj5 hlo5 hb5 HP4 HLO4 HCB4 HRB4 HB4 HNE HMY HPN HQN l4 c0 c1 c2 c3 c4 c5 c6
  generalize w4.heap.size = K4 at HBA HK4
  go_wp2_with fail
  go_loopw [45] (fun i wr => ∃ (k : Nat) (ws : Nat → Int), k ≤ len ∧ i = .int .i64 (k : Int) ∧ Hid (BothAt C K4 W M B Ck Q SB TB ws jv Jb K4 k g wr) ∧ Hid (BT w.heap.size 23 [.int .i64 (C.p : Int), .int .i64 (C.c : Int), .int .i64 C.n, .int .i64 C.b, .int .i64 C.r, .int .i64 (C.f : Int), .int .i64 (C.g : Int)] wr) ∧ Hid (BT RB 52 [.int .i64 (C.p : Int), .int .i64 (C.c : Int), .int .i64 C.n, .int .i64 C.b, .int .i64 C.r, .int .i64 (C.f : Int), .int .i64 (C.g : Int)] wr) ∧ Hid (Below w.heap.size w wr)) (fun i _ => len + 1 - (intOf i).toNat)
  case atStart => exact ⟨0, _, Nat.zero_le _, rfl, HBA, HCB5, HRB5, HB5⟩
  case round =>
    clear HBA HCB5 HRB5 HB5
    obtain ⟨k, ws, hk, rfl, HBA, HCB, HRB, HBB⟩ := hrel
    by_cases hlt : k < len
    · have k0 : (0 : Int) ≤ (k : Int) := by omega
      have k1 : (k : Int) < (len : Int) := by omega
      obtain ⟨ad, rfl, hadb, hcc⟩ := HO.out (by omega)
      obtain ⟨hc, hws, hwt⟩ := hcc k hlt
      have hlt9 : (ad.add (k * 10)).block < w.heap.size := by rw [block_of_add]; exact hadb
      have hwr : ∀ j, wr.cell? ((ad.add (k * 10)).add j) = w.cell? ((ad.add (k * 10)).add j) := fun j => HBB.out.cell (p := (ad.add (k * 10)).add j) (by rw [block_of_add]; exact hlt9)
      obtain ⟨gk, hgk⟩ : ∃ gk, g k = gk := ⟨_, rfl⟩
      rw [hgk] at hc hws hwt
      obtain ⟨⟨kd, fl, gn, lf, fs⟩, ⟨tn, ts, tp, tl, tu⟩⟩ := gk
      have d0 : wr.cell? (ad.add (k * 10)) = some (.int .i64 kd) := (HBB.out.cell (p := ad.add (k * 10)) hlt9).trans (hc 0 _ rfl)
      have d1 : wr.cell? ⟨(ad.add (k * 10)).block, (ad.add (k * 10)).off + 1, none⟩ = some (.bool fl) := by rw [← Mm.add_pos _ 1 (by decide) (World.cell?_spot d0), hwr, add_of_add]; exact hc 1 _ rfl
      have d2 : wr.cell? ⟨(ad.add (k * 10)).block, (ad.add (k * 10)).off + 2, none⟩ = some (.int .i64 gn) := by rw [← Mm.add_pos _ 2 (by decide) (World.cell?_spot d0), hwr, add_of_add]; exact hc 2 _ rfl
      have d3 : wr.cell? ⟨(ad.add (k * 10)).block, (ad.add (k * 10)).off + 3, none⟩ = some (.int .i64 lf) := by rw [← Mm.add_pos _ 3 (by decide) (World.cell?_spot d0), hwr, add_of_add]; exact hc 3 _ rfl
      have d4 : wr.cell? ⟨(ad.add (k * 10)).block, (ad.add (k * 10)).off + 4, none⟩ = some (.int .i64 fs) := by rw [← Mm.add_pos _ 4 (by decide) (World.cell?_spot d0), hwr, add_of_add]; exact hc 4 _ rfl
      have d5 : wr.cell? ⟨(ad.add (k * 10)).block, (ad.add (k * 10)).off + 5, none⟩ = some (.int .i64 tn) := by rw [← Mm.add_pos _ 5 (by decide) (World.cell?_spot d0), hwr, add_of_add]; exact hc 5 _ rfl
      have d6 : wr.cell? ⟨(ad.add (k * 10)).block, (ad.add (k * 10)).off + 6, none⟩ = some (.int .i64 ts) := by rw [← Mm.add_pos _ 6 (by decide) (World.cell?_spot d0), hwr, add_of_add]; exact hc 6 _ rfl
      have d7 : wr.cell? ⟨(ad.add (k * 10)).block, (ad.add (k * 10)).off + 7, none⟩ = some (.int .i64 tp) := by rw [← Mm.add_pos _ 7 (by decide) (World.cell?_spot d0), hwr, add_of_add]; exact hc 7 _ rfl
      have d8 : wr.cell? ⟨(ad.add (k * 10)).block, (ad.add (k * 10)).off + 8, none⟩ = some (.int .i64 tl) := by rw [← Mm.add_pos _ 8 (by decide) (World.cell?_spot d0), hwr, add_of_add]; exact hc 8 _ rfl
      have d9 : wr.cell? ⟨(ad.add (k * 10)).block, (ad.add (k * 10)).off + 9, none⟩ = some (.int .i64 tu) := by rw [← Mm.add_pos _ 9 (by decide) (World.cell?_spot d0), hwr, add_of_add]; exact hc 9 _ rfl
      have HGK := Lib.hid hgk
      have HKL := Lib.hid (And.intro hk hlt)
      obtain ⟨sw, sco, hsw, hsd⟩ : ∃ sw sco : Int, (∀ W', Calls Try.prog 29 #[sc ⟨kd, fl, gn, lf, fs⟩] W' fun e w' => e = .returned (.tuple #[.int .u64 sw, .int .i64 sco]) ∧ Below W'.heap.size W' w') ∧ ((FitS ⟨kd, fl, gn, lf, fs⟩ ∧ sw = (cw ⟨kd, fl, gn, lf, fs⟩ : Int) ∧ sco = 0) ∨ (¬ FitS ⟨kd, fl, gn, lf, fs⟩ ∧ sco = 5)) := by
        rcases stw_any _ hws with ⟨h1, h2⟩ | ⟨h1, h2⟩
        · exact ⟨_, _, h2, Or.inl ⟨h1, rfl, rfl⟩⟩
        · exact ⟨_, _, h2, Or.inr ⟨h1, rfl⟩⟩
      obtain ⟨tww, tco, htw, htd⟩ : ∃ tww tco : Int, (∀ W', Calls Try.prog 30 #[tc ⟨tn, ts, tp, tl, tu⟩] W' fun e w' => e = .returned (.tuple #[.int .u64 tww, .int .i64 tco]) ∧ Below W'.heap.size W' w') ∧ ((FitT5 ⟨tn, ts, tp, tl, tu⟩ ∧ tww = (tw ⟨tn, ts, tp, tl, tu⟩ : Int) ∧ tco = 0) ∨ (¬ FitT5 ⟨tn, ts, tp, tl, tu⟩ ∧ tco = 5)) := by
        rcases ttw_any _ hwt with ⟨h1, h2⟩ | ⟨h1, h2⟩
        · exact ⟨_, _, h2, Or.inl ⟨h1, rfl, rfl⟩⟩
        · exact ⟨_, _, h2, Or.inr ⟨h1, rfl⟩⟩
      unfold sc at hsw
      unfold tc at htw
      have HSW := Lib.hid hsw
      have HTW := Lib.hid htw
      have HSD := Lib.hid hsd
      have HTD := Lib.hid htd
      clear hc hws hwt hwr hadb hcc hgk hsw htw hsd htd
      go_wp2_with fail
      refine (HSW.out _).mono ?_
      rintro e w6 ⟨rfl, hb6⟩
      have HOB6 := Lib.hid ((BT.new wr [.int .i64 kd, .bool fl, .int .i64 gn, .int .i64 lf, .int .i64 fs, .int .i64 tn, .int .i64 ts, .int .i64 tp, .int .i64 tl, .int .i64 tu] 87).below hb6)
      have HBA6 := Lib.hid ((HBA.out.below (w' := wr.alloc (Obj.cells #[.int .i64 kd, .bool fl, .int .i64 gn, .int .i64 lf, .int .i64 fs, .int .i64 tn, .int .i64 ts, .int .i64 tp, .int .i64 tl, .int .i64 tu] 87)) (by go_grown)).below hb6)
      have HCB6 := Lib.hid ((HCB.out.below (w' := wr.alloc (Obj.cells #[.int .i64 kd, .bool fl, .int .i64 gn, .int .i64 lf, .int .i64 fs, .int .i64 tn, .int .i64 ts, .int .i64 tp, .int .i64 tl, .int .i64 tu] 87)) (by go_grown)).below hb6)
      have HRB6 := Lib.hid ((HRB.out.below (w' := wr.alloc (Obj.cells #[.int .i64 kd, .bool fl, .int .i64 gn, .int .i64 lf, .int .i64 fs, .int .i64 tn, .int .i64 ts, .int .i64 tp, .int .i64 tl, .int .i64 tu] 87)) (by go_grown)).below hb6)
      have HBB6 := Lib.hid (Below.step (HBB.out.alloc HBB.out.size (Obj.cells #[.int .i64 kd, .bool fl, .int .i64 gn, .int .i64 lf, .int .i64 fs, .int .i64 tn, .int .i64 ts, .int .i64 tp, .int .i64 tl, .int .i64 tu] 87)) hb6)
      have NOB := Lib.hid HBB.out.size
      have HBA6K := Lib.hid HBA.out.p.hK
      have hob := HOB6.out.bl
      have lob := hob.lt
      have o0 := hob.cell 0 _ rfl
      have o1 := hob.cell 1 _ rfl
      have o2 := hob.cell 2 _ rfl
      have o3 := hob.cell 3 _ rfl
      have o4 := hob.cell 4 _ rfl
      have o5 := hob.cell 5 _ rfl
      have o6 := hob.cell 6 _ rfl
      have o7 := hob.cell 7 _ rfl
      have o8 := hob.cell 8 _ rfl
      have o9 := hob.cell 9 _ rfl
      clear hb6 HBA HCB HRB HBB d0 d1 d2 d3 d4 d5 d6 d7 d8 d9 hob HSW
      have NKO := Lib.hid (show K4 ≤ wr.heap.size from HBA6K.out)
      generalize wr.heap.size = OB at *
      go_wp2_with fail
      refine (HTW.out _).mono ?_
      rintro e w7 ⟨rfl, hb7⟩
      have HOB := Lib.hid (HOB6.out.below hb7)
      have HBA := Lib.hid (HBA6.out.below hb7)
      have HCB := Lib.hid (HCB6.out.below hb7)
      have HRB := Lib.hid (HRB6.out.below hb7)
      have HBB := Lib.hid (Below.step HBB6.out hb7)
      clear hb7 HOB6 HBA6 HCB6 HRB6 HBB6 o0 o1 o2 o3 o4 o5 o6 o7 o8 o9 lob HTW
      go_upto_region 13 with fail
      go_cut [136] (fun s136 wx => ∃ b : Bool, s136 = .bool b ∧ Hid (b = false → OrdOk C k ⟨⟨kd, fl, gn, lf, fs⟩, ⟨tn, ts, tp, tl, tu⟩⟩) ∧ Hid (b = true → ¬ OrdOk C k ⟨⟨kd, fl, gn, lf, fs⟩, ⟨tn, ts, tp, tl, tu⟩⟩) ∧ Hid (Below w7.heap.size w7 wx))
      case first =>
        simp only [List.append]
        have hob := HOB.out.bl
        have lob := hob.lt
        have o0 := hob.cell 0 _ rfl
        have o1 := hob.cell 1 _ rfl
        have o2 := hob.cell 2 _ rfl
        have o3 := hob.cell 3 _ rfl
        have o4 := hob.cell 4 _ rfl
        have o5 := hob.cell 5 _ rfl
        have o6 := hob.cell 6 _ rfl
        have o7 := hob.cell 7 _ rfl
        have o8 := hob.cell 8 _ rfl
        have o9 := hob.cell 9 _ rfl
        have hcb := HCB.out.bl
        have lcb := hcb.lt
        have c5 := hcb.cell 5 _ rfl
        have c6 := hcb.cell 6 _ rfl
        have hqb := HBA.out.q.blk.bl
        have lqb := hqb.lt
        have q7 := hqb.cell 7 _ rfl
        clear hob hcb hqb
        by_cases h1 : C.A ≤ k
        · have e1 : decide ((C.A : Int) ≤ (k : Int)) = true := decide_eq_true (by omega)
          have e1n : decide (C.A ≤ k) = true := decide_eq_true h1
          have H1 := Lib.hid h1
          clear h1
          go_wp2_with fail
          go_meet
          case rel => exact ⟨true, rfl, Lib.hid (fun h => by simp at h), Lib.hid (fun _ h => by have := h.i; have := H1.out; omega), Lib.hid (Below.refl _ _)⟩
        · have e1 : decide ((C.A : Int) ≤ (k : Int)) = false := decide_eq_false (by omega)
          have e1n : decide (C.A ≤ k) = false := decide_eq_false h1
          have H1 := Lib.hid h1
          clear h1
          rcases HSD.out with ⟨hs1, hs2, hs3⟩ | ⟨hs1, hs2⟩
          rotate_left
          · have HS1 := Lib.hid hs1
            subst hs2
            clear hs1
            go_wp2_with fail
            go_meet
            case rel => exact ⟨true, rfl, Lib.hid (fun h => by simp at h), Lib.hid (fun _ h => HS1.out h.s), Lib.hid (Below.refl _ _)⟩
          · have HS1 := Lib.hid hs1
            subst hs3
            clear hs1 hs2
            rcases HTD.out with ⟨ht1, ht2, ht3⟩ | ⟨ht1, ht2⟩
            rotate_left
            · have HT1 := Lib.hid ht1
              subst ht2
              clear ht1
              go_wp2_with fail
              go_meet
              case rel => exact ⟨true, rfl, Lib.hid (fun h => by simp at h), Lib.hid (fun _ h => HT1.out h.t), Lib.hid (Below.refl _ _)⟩
            · have HT1 := Lib.hid ht1
              subst ht3
              clear ht1 ht2
              by_cases h2 : gn < 1
              · have e2 : decide (gn < 1) = true := decide_eq_true h2
                have H2 := Lib.hid h2
                clear h2
                go_wp2_with fail
                go_meet
                case rel => exact ⟨true, rfl, Lib.hid (fun h => by simp at h), Lib.hid (fun _ h => by have := h.g.1; simp only at this; have := H2.out; omega), Lib.hid (Below.refl _ _)⟩
              · have e2 : decide (gn < 1) = false := decide_eq_false h2
                have H2 := Lib.hid h2
                clear h2
                by_cases h3 : (C.g : Int) < gn
                · have e3 : decide ((C.g : Int) < gn) = true := decide_eq_true h3
                  have H3 := Lib.hid h3
                  clear h3
                  go_wp2_with fail
                  go_meet
                  case rel => exact ⟨true, rfl, Lib.hid (fun h => by simp at h), Lib.hid (fun _ h => by have := h.g.2; simp only at this; have := H3.out; omega), Lib.hid (Below.refl _ _)⟩
                · have e3 : decide ((C.g : Int) < gn) = false := decide_eq_false h3
                  have H3 := Lib.hid h3
                  clear h3
                  by_cases h4 : lf < 1
                  · have e4 : decide (lf < 1) = true := decide_eq_true h4
                    have H4 := Lib.hid h4
                    clear h4
                    go_wp2_with fail
                    go_meet
                    case rel => exact ⟨true, rfl, Lib.hid (fun h => by simp at h), Lib.hid (fun _ h => by have := h.l; simp only at this; have := H4.out; omega), Lib.hid (Below.refl _ _)⟩
                  · have e4 : decide (lf < 1) = false := decide_eq_false h4
                    have H4 := Lib.hid h4
                    clear h4
                    by_cases h5 : (C.f : Int) ≤ fs
                    · have e5 : decide ((C.f : Int) ≤ fs) = true := decide_eq_true h5
                      have H5 := Lib.hid h5
                      clear h5
                      go_wp2_with fail
                      go_meet
                      case rel => exact ⟨true, rfl, Lib.hid (fun h => by simp at h), Lib.hid (fun _ h => by have := h.f; simp only at this; have := H5.out; omega), Lib.hid (Below.refl _ _)⟩
                    · have e5 : decide ((C.f : Int) ≤ fs) = false := decide_eq_false h5
                      have H5 := Lib.hid h5
                      clear h5
                      by_cases h6 : kd = 1 ∨ kd = 2
                      · have HLO9 := Lib.hid (fun W' => rloose_any kd W')
                        rw [show decide (kd = 1 ∨ kd = 2) = true from decide_eq_true h6] at HLO9
                        go_wp2_with fail
                        refine (HLO9.out _).mono ?_
                        rintro e w8 ⟨rfl, hb8⟩
                        have HB8 := Lib.hid hb8
                        have hob8 := HOB.out.bl.below hb8
                        have lob8 := hob8.lt
                        have p0 := hob8.cell 0 _ rfl
                        have p1 := hob8.cell 1 _ rfl
                        have p2 := hob8.cell 2 _ rfl
                        have p3 := hob8.cell 3 _ rfl
                        have p4 := hob8.cell 4 _ rfl
                        have p5 := hob8.cell 5 _ rfl
                        have p6 := hob8.cell 6 _ rfl
                        have p7 := hob8.cell 7 _ rfl
                        have p8 := hob8.cell 8 _ rfl
                        have p9 := hob8.cell 9 _ rfl
                        have hcb8 := HCB.out.bl.below hb8
                        have lcb8 := hcb8.lt
                        have cc0 := hcb8.cell 0 _ rfl
                        have cc1 := hcb8.cell 1 _ rfl
                        have cc2 := hcb8.cell 2 _ rfl
                        have cc3 := hcb8.cell 3 _ rfl
                        have cc4 := hcb8.cell 4 _ rfl
                        have cc5 := hcb8.cell 5 _ rfl
                        have cc6 := hcb8.cell 6 _ rfl
                        clear hb8 hob8 hcb8 o0 o1 o2 o3 o4 o5 o6 o7 o8 o9 c5 c6 q7
                        have HKK := Lib.hid (show kd = 1 ∨ kd = 2 ∨ 5 ≤ kd from by omega)
                        clear h6
                        cases fl with
                        | true =>
                          go_wp2_with fail
                          go_meet
                          case rel => exact ⟨true, rfl, Lib.hid (fun h => by simp at h), Lib.hid (fun _ h => by have := h.fl; simp at this), HB8⟩
                        | false =>
                          go_wp2_with fail
                          rcases chk_any (C.p : Int) (C.c : Int) C.n C.b C.r (C.f : Int) (C.g : Int) ⟨tn, ts, tp, tl, tu⟩ (max lf tl) with ⟨hk1, hk2⟩ | ⟨hk1, v, hv, hk2⟩
                          · have HK1 := Lib.hid hk1
                            unfold tc at hk2
                            clear hk1
                            refine (hk2 _).mono ?_
                            rintro e w9 ⟨rfl, hb9⟩
                            have HB9 := Lib.hid (Below.step HB8.out hb9)
                            clear hb9 hk2
                            go_wp2_with fail
                            go_meet
                            case rel => exact ⟨false, rfl, Lib.hid (fun _ => ⟨by have := H1.out; omega, HS1.out, HT1.out, ⟨by have := H2.out; simp only; omega, by have := H3.out; simp only; omega⟩, by have := H4.out; simp only; omega, by have := H5.out; simp only; omega, by have := HKK.out; simp only; omega, rfl, HK1.out⟩), Lib.hid (fun h => by simp at h), HB9⟩
                          · have HK1 := Lib.hid hk1
                            have hv2 : (v != 0) = true := by simp [bne, hv]
                            unfold tc at hk2
                            clear hk1
                            refine (hk2 _).mono ?_
                            rintro e w9 ⟨rfl, hb9⟩
                            have HB9 := Lib.hid (Below.step HB8.out hb9)
                            clear hb9 hk2
                            go_wp2_with fail
                            go_meet
                            case rel => exact ⟨true, rfl, Lib.hid (fun h => by simp at h), Lib.hid (fun _ h => HK1.out h.c), HB9⟩
                      · have HLO9 := Lib.hid (fun W' => rloose_any kd W')
                        rw [show decide (kd = 1 ∨ kd = 2) = false from decide_eq_false h6] at HLO9
                        go_wp2_with fail
                        refine (HLO9.out _).mono ?_
                        rintro e w8 ⟨rfl, hb8⟩
                        have HB8 := Lib.hid hb8
                        have hob8 := HOB.out.bl.below hb8
                        have lob8 := hob8.lt
                        have p0 := hob8.cell 0 _ rfl
                        have p1 := hob8.cell 1 _ rfl
                        have p2 := hob8.cell 2 _ rfl
                        have p3 := hob8.cell 3 _ rfl
                        have p4 := hob8.cell 4 _ rfl
                        have p5 := hob8.cell 5 _ rfl
                        have p6 := hob8.cell 6 _ rfl
                        have p7 := hob8.cell 7 _ rfl
                        have p8 := hob8.cell 8 _ rfl
                        have p9 := hob8.cell 9 _ rfl
                        have hcb8 := HCB.out.bl.below hb8
                        have lcb8 := hcb8.lt
                        have cc0 := hcb8.cell 0 _ rfl
                        have cc1 := hcb8.cell 1 _ rfl
                        have cc2 := hcb8.cell 2 _ rfl
                        have cc3 := hcb8.cell 3 _ rfl
                        have cc4 := hcb8.cell 4 _ rfl
                        have cc5 := hcb8.cell 5 _ rfl
                        have cc6 := hcb8.cell 6 _ rfl
                        clear hb8 hob8 hcb8 o0 o1 o2 o3 o4 o5 o6 o7 o8 o9 c5 c6 q7
                        by_cases h7 : kd < 5
                        · have e7 : decide (kd < 5) = true := decide_eq_true h7
                          have H7 := Lib.hid (show ¬ (kd = 1 ∨ kd = 2 ∨ 5 ≤ kd) from by omega)
                          clear h7 h6
                          go_wp2_with fail
                          go_meet
                          case rel => exact ⟨true, rfl, Lib.hid (fun h => by simp at h), Lib.hid (fun _ h => H7.out h.k), HB8⟩
                        · have e7 : decide (kd < 5) = false := decide_eq_false h7
                          have HKK := Lib.hid (show kd = 1 ∨ kd = 2 ∨ 5 ≤ kd from by omega)
                          clear h7 h6
                          cases fl with
                          | true =>
                            go_wp2_with fail
                            go_meet
                            case rel => exact ⟨true, rfl, Lib.hid (fun h => by simp at h), Lib.hid (fun _ h => by have := h.fl; simp at this), HB8⟩
                          | false =>
                            go_wp2_with fail
                            rcases chk_any (C.p : Int) (C.c : Int) C.n C.b C.r (C.f : Int) (C.g : Int) ⟨tn, ts, tp, tl, tu⟩ (max lf tl) with ⟨hk1, hk2⟩ | ⟨hk1, v, hv, hk2⟩
                            · have HK1 := Lib.hid hk1
                              unfold tc at hk2
                              clear hk1
                              refine (hk2 _).mono ?_
                              rintro e w9 ⟨rfl, hb9⟩
                              have HB9 := Lib.hid (Below.step HB8.out hb9)
                              clear hb9 hk2
                              go_wp2_with fail
                              go_meet
                              case rel => exact ⟨false, rfl, Lib.hid (fun _ => ⟨by have := H1.out; omega, HS1.out, HT1.out, ⟨by have := H2.out; simp only; omega, by have := H3.out; simp only; omega⟩, by have := H4.out; simp only; omega, by have := H5.out; simp only; omega, by have := HKK.out; simp only; omega, rfl, HK1.out⟩), Lib.hid (fun h => by simp at h), HB9⟩
                            · have HK1 := Lib.hid hk1
                              have hv2 : (v != 0) = true := by simp [bne, hv]
                              unfold tc at hk2
                              clear hk1
                              refine (hk2 _).mono ?_
                              rintro e w9 ⟨rfl, hb9⟩
                              have HB9 := Lib.hid (Below.step HB8.out hb9)
                              clear hb9 hk2
                              go_wp2_with fail
                              go_meet
                              case rel => exact ⟨true, rfl, Lib.hid (fun h => by simp at h), Lib.hid (fun _ h => HK1.out h.c), HB9⟩
      case rest =>
        obtain ⟨b, rfl, HBN, HBY, HB8⟩ := hcut
        obtain ⟨w8, hw8⟩ : ∃ w8, w8 = wc := ⟨_, rfl⟩
        subst hw8
        cases b with
        | true =>
          have HNO := Lib.hid (HBY.out rfl)
          clear HBN HBY
          go_wp2_with fail
          go_ret3
          exact Or.inr ⟨fun hh => HNO.out (by have := hh k HKL.out.2; rw [HGK.out] at this; exact this), rfl, Below.step HBB.out HB8.out⟩
        | false =>
          have HOK := Lib.hid (HBN.out rfl)
          have HSW2 := Lib.hid (show sw = (cw ⟨kd, fl, gn, lf, fs⟩ : Int) from by rcases HSD.out with ⟨_, h, _⟩ | ⟨h, _⟩ <;> first | exact h | exact absurd HOK.out.s h)
          have HTW2 := Lib.hid (show tww = (tw ⟨tn, ts, tp, tl, tu⟩ : Int) from by rcases HTD.out with ⟨_, h, _⟩ | ⟨h, _⟩ <;> first | exact h | exact absurd HOK.out.t h)
          have HOB8 := Lib.hid (HOB.out.below HB8.out)
          have HBA8 := Lib.hid (HBA.out.below HB8.out)
          have HCB8 := Lib.hid (HCB.out.below HB8.out)
          have HRB8 := Lib.hid (HRB.out.below HB8.out)
          have HBB8 := Lib.hid (Below.step HBB.out HB8.out)
          clear HBN HBY HB8 HOB HBA HCB HRB HBB HSD HTD
          have HST := Lib.hid (fun W' => state_at C.p C.c C.A k C.n C.b C.r (C.f : Int) (C.g : Int) W' rfl HC.out.a24.2 HOK.out.i)
          have HTT := Lib.hid (fun W' => terms_at C.p C.c C.A k C.n C.b C.r (C.f : Int) (C.g : Int) W' rfl HC.out.a24.2 HOK.out.i)
          have h24 := Lib.hid HC.out.a24
          have hn9 := Lib.hid (Cfg.st_lt HOK.out.i)
          have HSB := Lib.hid (fun (ws' : Nat → Int) (st' : Int) (W' : World) (hW : PW K4 C W M B Ck ws' st' 0 (.slice none 0 0) [] W') (hs : 0 ≤ st' ∧ st' ≤ 1000000) => show Calls Try.prog 33 #[.pointer (some ⟨M, 0, none⟩), .int .i64 (2 * (k : Int)), .int .u64 sw] W' (MOp M B C.N (Mm.upd ws' (2 * k) sw) (st' + 1) .nilIface W') from by
            have e : 2 * (k : Int) = ((2 * k : Nat) : Int) := by omega
            rw [e]
            exact mstore hW.mem (2 * k) hn9.out.1 sw (by rw [HSW2.out]; have := cw_lt ⟨kd, fl, gn, lf, fs⟩ HOK.out.s; omega) hs)
          have HTB := Lib.hid (fun (ws' : Nat → Int) (st' : Int) (W' : World) (hW : PW K4 C W M B Ck ws' st' 0 (.slice none 0 0) [] W') (hs : 0 ≤ st' ∧ st' ≤ 1000000) => show Calls Try.prog 33 #[.pointer (some ⟨M, 0, none⟩), .int .i64 (2 * (k : Int) + 1), .int .u64 tww] W' (MOp M B C.N (Mm.upd ws' (2 * k + 1) tww) (st' + 1) .nilIface W') from by
            have e : 2 * (k : Int) + 1 = ((2 * k + 1 : Nat) : Int) := by omega
            rw [e]
            exact mstore hW.mem (2 * k + 1) hn9.out.2 tww (by rw [HTW2.out]; have := tw_lt ⟨tn, ts, tp, tl, tu⟩ HOK.out.t; omega) hs)
          have HPW := Lib.hid HBA8.out.p
          have HQW := Lib.hid HBA8.out.q
          have HJR := Lib.hid HBA8.out.j
          have HRL2 := Lib.hid HBA8.out.r
          have HLO2 := Lib.hid HBA8.out.lo
          have HOKS := Lib.hid HBA8.out.ok
          have NMQ := Lib.hid (show ∀ x, K4 ≤ x → x ≠ M ∧ x ≠ B from fun x hx => by have := HK4.out; omega)
          have NCM := Lib.hid (show w.heap.size ≠ M ∧ w.heap.size ≠ B ∧ RB ≠ M ∧ RB ≠ B from by have := HRL.out; have := HCL.out; omega)
          have NOM := Lib.hid (show OB ≠ M ∧ OB ≠ B from by have := NKO.out; have := HK4.out; omega)
          have NWM := Lib.hid (show W ≠ M ∧ W ≠ B from ⟨HPW.out.ne.1, HPW.out.ne.2.1⟩)
          have hst0 := Lib.hid (show 0 ≤ 2 * (k : Int) ∧ 2 * (k : Int) ≤ 1000 from by have := HOK.out.i; have := h24.out; omega)
          clear HBA8
          go_wp2_with fail
          have h15 : Bl W [.int .i64 (C.p : Int), .int .i64 (C.c : Int), .int .i64 C.n, .int .i64 C.b, .int .i64 C.r, .int .i64 (C.f : Int), .int .i64 (C.g : Int), .pointer (some ⟨M, 0, none⟩), .pointer (some ⟨Ck, 0, none⟩), .slice none 0 0] w8.drew ∧ Bl RB [.int .i64 (C.p : Int), .int .i64 (C.c : Int), .int .i64 C.n, .int .i64 C.b, .int .i64 C.r, .int .i64 (C.f : Int), .int .i64 (C.g : Int)] w8.drew := ⟨HPW.out.blk, HRB8.out.bl⟩
          have HPD := Lib.hid (show PW K4 C W M B Ck ws (2 * (k : Int)) 0 (.slice none 0 0) [] w8.drew from HPW.out.below (Below.drew (Below.refl _ _)))
          have HQD := Lib.hid (show QW Q SB TB C (Sg g k) (Tg g k) jv w8.drew from HQW.out.below (Below.drew (Below.refl _ _)))
          have HJD := Lib.hid (show JR K4 C.A (C.g * (C.f + 1)) jv Jb w8.drew from ⟨HJR.out.row, HJR.out.b⟩)
          have HOD := Lib.hid (show BT OB 87 [.int .i64 kd, .bool fl, .int .i64 gn, .int .i64 lf, .int .i64 fs, .int .i64 tn, .int .i64 ts, .int .i64 tp, .int .i64 tl, .int .i64 tu] w8.drew from HOB8.out)
          have HCD := Lib.hid (show BT w.heap.size 23 [.int .i64 (C.p : Int), .int .i64 (C.c : Int), .int .i64 C.n, .int .i64 C.b, .int .i64 C.r, .int .i64 (C.f : Int), .int .i64 (C.g : Int)] w8.drew from HCB8.out)
          have HRD := Lib.hid (show BT RB 52 [.int .i64 (C.p : Int), .int .i64 (C.c : Int), .int .i64 C.n, .int .i64 C.b, .int .i64 C.r, .int .i64 (C.f : Int), .int .i64 (C.g : Int)] w8.drew from HRB8.out)
          have HBD := Lib.hid (show Below w.heap.size w w8.drew from HBB8.out.drew)
          refine wp_region_held_drew (S := fun w' => Bl W [.int .i64 (C.p : Int), .int .i64 (C.c : Int), .int .i64 C.n, .int .i64 C.b, .int .i64 C.r, .int .i64 (C.f : Int), .int .i64 (C.g : Int), .pointer (some ⟨M, 0, none⟩), .pointer (some ⟨Ck, 0, none⟩), .slice none 0 0] w' ∧ Bl RB [.int .i64 (C.p : Int), .int .i64 (C.c : Int), .int .i64 C.n, .int .i64 C.b, .int .i64 C.r, .int .i64 (C.f : Int), .int .i64 (C.g : Int)] w') (by kernel_rfl) h15 (fun hHeld => ?_)
          clear h15 HPW HQW HJR HOB8 HCB8 HRB8 HBB8
          generalize w8.drew = WD at hHeld HPD HQD HJD HOD HCD HRD HBD ⊢
          refine tk (i := 0) (d := some 137) (v := ?_) (hy := Or.inl ⟨by rfl, ?_⟩) (h := ?_)
          rotate_left
          · intro wq hSw
            go_simp
            try with_reducible rfl
          simp only [Act.put, tkA, tkB, tkC]
          refine tk (i := 1) (d := some 138) (v := ?_) (hy := Or.inl ⟨by rfl, ?_⟩) (h := ?_)
          rotate_left
          · intro wq hSw
            go_simp
            try with_reducible rfl
          simp only [Act.put, tkA, tkB, tkC]
          refine tk (i := 2) (d := some 139) (v := ?_) (hy := Or.inl ⟨by rfl, ?_⟩) (h := ?_)
          rotate_left
          · intro wq hSw
            go_simp
            try with_reducible rfl
          simp only [Act.put, tkA, tkB, tkC]
          refine tk (i := 3) (d := some 140) (v := ?_) (hy := Or.inl ⟨by rfl, ?_⟩) (h := ?_)
          rotate_left
          · intro wq hSw
            have hb9 := hSw.1
            have l7 := hb9.lt
            have z7 := hb9.cell 7 _ rfl
            go_simp
            try with_reducible rfl
          simp only [Act.put, tkA, tkB, tkC]
          refine tk (i := 4) (d := some 141) (v := ?_) (hy := Or.inl ⟨by rfl, ?_⟩) (h := ?_)
          rotate_left
          · intro wq hSw
            have hb9 := hSw.2
            have l7 := hb9.lt
            have z0 := hb9.cell 0 _ rfl
            have z1 := hb9.cell 1 _ rfl
            have z2 := hb9.cell 2 _ rfl
            have z3 := hb9.cell 3 _ rfl
            have z4 := hb9.cell 4 _ rfl
            have z5 := hb9.cell 5 _ rfl
            have z6 := hb9.cell 6 _ rfl
            go_simp
            try with_reducible rfl
          simp only [Act.put, tkA, tkB, tkC]
          refine tk (i := 5) (d := some 142) (v := ?_) (hy := Or.inl ⟨by rfl, ?_⟩) (h := ?_)
          rotate_left
          · intro wq hSw
            go_simp
            try with_reducible rfl
          simp only [Act.put, tkA, tkB, tkC]
          refine tk (i := 7) (d := some 144) (v := ?_) (hy := Or.inl ⟨by rfl, ?_⟩) (h := ?_)
          rotate_left
          · intro wq hSw
            go_simp
            try with_reducible rfl
          simp only [Act.put, tkA, tkB, tkC]
          refine wpAnyH_ready (rs := [6]) (by as_aux_lemma => kernel_rfl) (by simp) ?_
          refine AllReadyH.cons rfl (fun K hK => ?_) AllReadyH.nil
          go_simp
          refine (HST.out WD).mono ?_
          rintro e w9 ⟨rfl, hb9⟩
          have HPE := Lib.hid (HPD.out.below hb9)
          have HQE := Lib.hid (HQD.out.below hb9)
          have HJE := Lib.hid (show JR K4 C.A (C.g * (C.f + 1)) jv Jb w9 from ⟨rkept HJD.out.row hb9, fun i hi => ⟨(hb9.block _ (blk_lt (HJD.out.b i hi).1)).trans (HJD.out.b i hi).1, (HJD.out.b i hi).2⟩⟩)
          have HOE := Lib.hid (HOD.out.below hb9)
          have HCE := Lib.hid (HCD.out.below hb9)
          have HRE := Lib.hid (HRD.out.below hb9)
          have HBE := Lib.hid (Below.step HBD.out hb9)
          refine hK.out _ _ ⟨hHeld.1.below hb9, hHeld.2.below hb9⟩ (fun hHeld => ?_)
          clear hK K hb9 HPD HQD HJD HOD HCD HRD HBD
          try simp only [Act.put, tkA, tkB, tkC]
          refine wpAnyH_ready (rs := [8]) (by as_aux_lemma => kernel_rfl) (by simp) ?_
          refine AllReadyH.cons rfl (fun K hK => ?_) AllReadyH.nil
          go_simp
          refine (HSB.out _ _ w9 HPE.out (by have := hst0.out; omega)).mono ?_
          rintro e wa ⟨rfl, hm, hz, ho⟩
          have bk : ∀ x, x < w9.heap.size → x ≠ M → x ≠ B → wa.heap[x]? = w9.heap[x]? := fun x hx h1 h2 => ho.2.2.2.2 x hx h1 h2
          have HPW := Lib.hid (show PW K4 C W M B Ck (Mm.upd ws (2 * k) sw) ((2 * (k : Int)) + 1) 0 (.slice none 0 0) [] wa from HPE.out.op ho hm)
          have HQW := Lib.hid (HQE.out.blocks fun x hx => by
            have hl : x < w9.heap.size := by
              rcases hx with rfl | rfl | rfl
              · exact HQE.out.blk.bl.lt
              · exact HQE.out.s.lt
              · exact HQE.out.t.lt
            have hk4 : K4 ≤ x := by have := HLO2.out; rcases hx with rfl | rfl | rfl <;> omega
            exact bk x hl (NMQ.out x hk4).1 (NMQ.out x hk4).2)
          have HJR := Lib.hid (HJE.out.blocks (fun x hx => by
            have h1 := HJE.out.row.lt x hx
            exact bk x h1.2 (NMQ.out x h1.1).1 (NMQ.out x h1.1).2) (fun i hi => bk _ (blk_lt (HJE.out.b i hi).1) (NMQ.out _ (HJE.out.b i hi).2).1 (NMQ.out _ (HJE.out.b i hi).2).2))
          have HOB8 := Lib.hid (show BT OB 87 [.int .i64 kd, .bool fl, .int .i64 gn, .int .i64 lf, .int .i64 fs, .int .i64 tn, .int .i64 ts, .int .i64 tp, .int .i64 tl, .int .i64 tu] wa from (bk OB HOE.out.bl.lt NOM.out.1 NOM.out.2).trans HOE.out)
          have HCB8 := Lib.hid (show BT w.heap.size 23 [.int .i64 (C.p : Int), .int .i64 (C.c : Int), .int .i64 C.n, .int .i64 C.b, .int .i64 C.r, .int .i64 (C.f : Int), .int .i64 (C.g : Int)] wa from (bk _ HCE.out.bl.lt NCM.out.1 NCM.out.2.1).trans HCE.out)
          have HRB8 := Lib.hid (show BT RB 52 [.int .i64 (C.p : Int), .int .i64 (C.c : Int), .int .i64 C.n, .int .i64 C.b, .int .i64 C.r, .int .i64 (C.f : Int), .int .i64 (C.g : Int)] wa from (bk _ HRE.out.bl.lt NCM.out.2.2.1 NCM.out.2.2.2).trans HRE.out)
          have HBB8 := Lib.hid (show Below w.heap.size w wa from ⟨ho.1.trans HBE.out.os, ho.2.1.trans HBE.out.tape, ho.2.2.1.trans HBE.out.output, Nat.le_trans HBE.out.size ho.2.2.2.1, fun x hx => (bk x (by have := HBE.out.size; omega) (by have := HLO.out; omega) (by have := HLO.out; omega)).trans (HBE.out.block x hx)⟩)
          refine hK.out _ _ ⟨HPW.out.blk, HRB8.out.bl⟩ (fun hHeld => ?_)
          clear hK K hm hz ho bk hHeld HPE HQE HJE HOE HCE HRE HBE
          try simp only [Act.put, tkA, tkB, tkC]
          refine wpAnyH_done (by as_aux_lemma => kernel_rfl) ?_ _
          go_wp2_with fail
          have h15 : Bl W [.int .i64 (C.p : Int), .int .i64 (C.c : Int), .int .i64 C.n, .int .i64 C.b, .int .i64 C.r, .int .i64 (C.f : Int), .int .i64 (C.g : Int), .pointer (some ⟨M, 0, none⟩), .pointer (some ⟨Ck, 0, none⟩), .slice none 0 0] wa.drew ∧ Bl RB [.int .i64 (C.p : Int), .int .i64 (C.c : Int), .int .i64 C.n, .int .i64 C.b, .int .i64 C.r, .int .i64 (C.f : Int), .int .i64 (C.g : Int)] wa.drew := ⟨HPW.out.blk, HRB8.out.bl⟩
          have HPD := Lib.hid (show PW K4 C W M B Ck (Mm.upd ws (2 * k) sw) ((2 * (k : Int)) + 1) 0 (.slice none 0 0) [] wa.drew from HPW.out.below (Below.drew (Below.refl _ _)))
          have HQD := Lib.hid (show QW Q SB TB C (Sg g k) (Tg g k) jv wa.drew from HQW.out.below (Below.drew (Below.refl _ _)))
          have HJD := Lib.hid (show JR K4 C.A (C.g * (C.f + 1)) jv Jb wa.drew from ⟨HJR.out.row, HJR.out.b⟩)
          have HOD := Lib.hid (show BT OB 87 [.int .i64 kd, .bool fl, .int .i64 gn, .int .i64 lf, .int .i64 fs, .int .i64 tn, .int .i64 ts, .int .i64 tp, .int .i64 tl, .int .i64 tu] wa.drew from HOB8.out)
          have HCD := Lib.hid (show BT w.heap.size 23 [.int .i64 (C.p : Int), .int .i64 (C.c : Int), .int .i64 C.n, .int .i64 C.b, .int .i64 C.r, .int .i64 (C.f : Int), .int .i64 (C.g : Int)] wa.drew from HCB8.out)
          have HRD := Lib.hid (show BT RB 52 [.int .i64 (C.p : Int), .int .i64 (C.c : Int), .int .i64 C.n, .int .i64 C.b, .int .i64 C.r, .int .i64 (C.f : Int), .int .i64 (C.g : Int)] wa.drew from HRB8.out)
          have HBD := Lib.hid (show Below w.heap.size w wa.drew from HBB8.out.drew)
          refine wp_region_held_drew (S := fun w' => Bl W [.int .i64 (C.p : Int), .int .i64 (C.c : Int), .int .i64 C.n, .int .i64 C.b, .int .i64 C.r, .int .i64 (C.f : Int), .int .i64 (C.g : Int), .pointer (some ⟨M, 0, none⟩), .pointer (some ⟨Ck, 0, none⟩), .slice none 0 0] w' ∧ Bl RB [.int .i64 (C.p : Int), .int .i64 (C.c : Int), .int .i64 C.n, .int .i64 C.b, .int .i64 C.r, .int .i64 (C.f : Int), .int .i64 (C.g : Int)] w') (by kernel_rfl) h15 (fun hHeld => ?_)
          clear h15 HPW HQW HJR HOB8 HCB8 HRB8 HBB8
          generalize wa.drew = WD at hHeld HPD HQD HJD HOD HCD HRD HBD ⊢
          refine tk (i := 0) (d := some 146) (v := ?_) (hy := Or.inl ⟨by rfl, ?_⟩) (h := ?_)
          rotate_left
          · intro wq hSw
            go_simp
            try with_reducible rfl
          simp only [Act.put, tkA, tkB, tkC]
          refine tk (i := 1) (d := some 147) (v := ?_) (hy := Or.inl ⟨by rfl, ?_⟩) (h := ?_)
          rotate_left
          · intro wq hSw
            go_simp
            try with_reducible rfl
          simp only [Act.put, tkA, tkB, tkC]
          refine tk (i := 2) (d := some 148) (v := ?_) (hy := Or.inl ⟨by rfl, ?_⟩) (h := ?_)
          rotate_left
          · intro wq hSw
            go_simp
            try with_reducible rfl
          simp only [Act.put, tkA, tkB, tkC]
          refine tk (i := 3) (d := some 149) (v := ?_) (hy := Or.inl ⟨by rfl, ?_⟩) (h := ?_)
          rotate_left
          · intro wq hSw
            have hb9 := hSw.1
            have l7 := hb9.lt
            have z7 := hb9.cell 7 _ rfl
            go_simp
            try with_reducible rfl
          simp only [Act.put, tkA, tkB, tkC]
          refine tk (i := 4) (d := some 150) (v := ?_) (hy := Or.inl ⟨by rfl, ?_⟩) (h := ?_)
          rotate_left
          · intro wq hSw
            have hb9 := hSw.2
            have l7 := hb9.lt
            have z0 := hb9.cell 0 _ rfl
            have z1 := hb9.cell 1 _ rfl
            have z2 := hb9.cell 2 _ rfl
            have z3 := hb9.cell 3 _ rfl
            have z4 := hb9.cell 4 _ rfl
            have z5 := hb9.cell 5 _ rfl
            have z6 := hb9.cell 6 _ rfl
            go_simp
            try with_reducible rfl
          simp only [Act.put, tkA, tkB, tkC]
          refine tk (i := 5) (d := some 151) (v := ?_) (hy := Or.inl ⟨by rfl, ?_⟩) (h := ?_)
          rotate_left
          · intro wq hSw
            go_simp
            try with_reducible rfl
          simp only [Act.put, tkA, tkB, tkC]
          refine tk (i := 7) (d := some 153) (v := ?_) (hy := Or.inl ⟨by rfl, ?_⟩) (h := ?_)
          rotate_left
          · intro wq hSw
            go_simp
            try with_reducible rfl
          simp only [Act.put, tkA, tkB, tkC]
          refine wpAnyH_ready (rs := [6]) (by as_aux_lemma => kernel_rfl) (by simp) ?_
          refine AllReadyH.cons rfl (fun K hK => ?_) AllReadyH.nil
          go_simp
          refine (HTT.out WD).mono ?_
          rintro e w9 ⟨rfl, hb9⟩
          have HPE := Lib.hid (HPD.out.below hb9)
          have HQE := Lib.hid (HQD.out.below hb9)
          have HJE := Lib.hid (show JR K4 C.A (C.g * (C.f + 1)) jv Jb w9 from ⟨rkept HJD.out.row hb9, fun i hi => ⟨(hb9.block _ (blk_lt (HJD.out.b i hi).1)).trans (HJD.out.b i hi).1, (HJD.out.b i hi).2⟩⟩)
          have HOE := Lib.hid (HOD.out.below hb9)
          have HCE := Lib.hid (HCD.out.below hb9)
          have HRE := Lib.hid (HRD.out.below hb9)
          have HBE := Lib.hid (Below.step HBD.out hb9)
          refine hK.out _ _ ⟨hHeld.1.below hb9, hHeld.2.below hb9⟩ (fun hHeld => ?_)
          clear hK K hb9 HPD HQD HJD HOD HCD HRD HBD
          try simp only [Act.put, tkA, tkB, tkC]
          refine wpAnyH_ready (rs := [8]) (by as_aux_lemma => kernel_rfl) (by simp) ?_
          refine AllReadyH.cons rfl (fun K hK => ?_) AllReadyH.nil
          go_simp
          refine (HTB.out _ _ w9 HPE.out (by have := hst0.out; omega)).mono ?_
          rintro e wb ⟨rfl, hm, hz, ho⟩
          have bk : ∀ x, x < w9.heap.size → x ≠ M → x ≠ B → wb.heap[x]? = w9.heap[x]? := fun x hx h1 h2 => ho.2.2.2.2 x hx h1 h2
          have HPW := Lib.hid (show PW K4 C W M B Ck (Mm.upd (Mm.upd ws (2 * k) sw) (2 * k + 1) tww) (((2 * (k : Int)) + 1) + 1) 0 (.slice none 0 0) [] wb from HPE.out.op ho hm)
          have HQW := Lib.hid (HQE.out.blocks fun x hx => by
            have hl : x < w9.heap.size := by
              rcases hx with rfl | rfl | rfl
              · exact HQE.out.blk.bl.lt
              · exact HQE.out.s.lt
              · exact HQE.out.t.lt
            have hk4 : K4 ≤ x := by have := HLO2.out; rcases hx with rfl | rfl | rfl <;> omega
            exact bk x hl (NMQ.out x hk4).1 (NMQ.out x hk4).2)
          have HJR := Lib.hid (HJE.out.blocks (fun x hx => by
            have h1 := HJE.out.row.lt x hx
            exact bk x h1.2 (NMQ.out x h1.1).1 (NMQ.out x h1.1).2) (fun i hi => bk _ (blk_lt (HJE.out.b i hi).1) (NMQ.out _ (HJE.out.b i hi).2).1 (NMQ.out _ (HJE.out.b i hi).2).2))
          have HOB8 := Lib.hid (show BT OB 87 [.int .i64 kd, .bool fl, .int .i64 gn, .int .i64 lf, .int .i64 fs, .int .i64 tn, .int .i64 ts, .int .i64 tp, .int .i64 tl, .int .i64 tu] wb from (bk OB HOE.out.bl.lt NOM.out.1 NOM.out.2).trans HOE.out)
          have HCB8 := Lib.hid (show BT w.heap.size 23 [.int .i64 (C.p : Int), .int .i64 (C.c : Int), .int .i64 C.n, .int .i64 C.b, .int .i64 C.r, .int .i64 (C.f : Int), .int .i64 (C.g : Int)] wb from (bk _ HCE.out.bl.lt NCM.out.1 NCM.out.2.1).trans HCE.out)
          have HRB8 := Lib.hid (show BT RB 52 [.int .i64 (C.p : Int), .int .i64 (C.c : Int), .int .i64 C.n, .int .i64 C.b, .int .i64 C.r, .int .i64 (C.f : Int), .int .i64 (C.g : Int)] wb from (bk _ HRE.out.bl.lt NCM.out.2.2.1 NCM.out.2.2.2).trans HRE.out)
          have HBB8 := Lib.hid (show Below w.heap.size w wb from ⟨ho.1.trans HBE.out.os, ho.2.1.trans HBE.out.tape, ho.2.2.1.trans HBE.out.output, Nat.le_trans HBE.out.size ho.2.2.2.1, fun x hx => (bk x (by have := HBE.out.size; omega) (by have := HLO.out; omega) (by have := HLO.out; omega)).trans (HBE.out.block x hx)⟩)
          refine hK.out _ _ ⟨HPW.out.blk, HRB8.out.bl⟩ (fun hHeld => ?_)
          clear hK K hm hz ho bk hHeld HPE HQE HJE HOE HCE HRE HBE
          try simp only [Act.put, tkA, tkB, tkC]
          refine wpAnyH_done (by as_aux_lemma => kernel_rfl) ?_ _
          go_wp2_with fail
          have h17 : BT Q 34 [.int .i64 (C.p : Int), .int .i64 (C.c : Int), .int .i64 C.n, .int .i64 C.b, .int .i64 C.r, .int .i64 (C.f : Int), .int .i64 (C.g : Int), .slice (some ⟨SB, 0, none⟩) C.A C.A, .slice (some ⟨TB, 0, none⟩) C.A C.A, jv, .int .i64 0, .slice none 0 0, .int .i64 0] wb.drew ∧ BT OB 87 [.int .i64 kd, .bool fl, .int .i64 gn, .int .i64 lf, .int .i64 fs, .int .i64 tn, .int .i64 ts, .int .i64 tp, .int .i64 tl, .int .i64 tu] wb.drew := ⟨HQW.out.blk, HOB8.out⟩
          have HPD := Lib.hid (show PW K4 C W M B Ck (Mm.upd (Mm.upd ws (2 * k) sw) (2 * k + 1) tww) (((2 * (k : Int)) + 1) + 1) 0 (.slice none 0 0) [] wb.drew from HPW.out.below (Below.drew (Below.refl _ _)))
          have HQS := Lib.hid (show SRow SB C.A (Sg g k) wb.drew from HQW.out.s)
          have HQT := Lib.hid (show TRow TB C.A (Tg g k) wb.drew from HQW.out.t)
          have HJD := Lib.hid (show JR K4 C.A (C.g * (C.f + 1)) jv Jb wb.drew from ⟨HJR.out.row, HJR.out.b⟩)
          have HCD := Lib.hid (show BT w.heap.size 23 [.int .i64 (C.p : Int), .int .i64 (C.c : Int), .int .i64 C.n, .int .i64 C.b, .int .i64 C.r, .int .i64 (C.f : Int), .int .i64 (C.g : Int)] wb.drew from HCB8.out)
          have HRD := Lib.hid (show BT RB 52 [.int .i64 (C.p : Int), .int .i64 (C.c : Int), .int .i64 C.n, .int .i64 C.b, .int .i64 C.r, .int .i64 (C.f : Int), .int .i64 (C.g : Int)] wb.drew from HRB8.out)
          have HBD := Lib.hid (show Below w.heap.size w wb.drew from HBB8.out.drew)
          refine wp_region_held_drew (S := fun w' => BT Q 34 [.int .i64 (C.p : Int), .int .i64 (C.c : Int), .int .i64 C.n, .int .i64 C.b, .int .i64 C.r, .int .i64 (C.f : Int), .int .i64 (C.g : Int), .slice (some ⟨SB, 0, none⟩) C.A C.A, .slice (some ⟨TB, 0, none⟩) C.A C.A, jv, .int .i64 0, .slice none 0 0, .int .i64 0] w' ∧ BT OB 87 [.int .i64 kd, .bool fl, .int .i64 gn, .int .i64 lf, .int .i64 fs, .int .i64 tn, .int .i64 ts, .int .i64 tp, .int .i64 tl, .int .i64 tu] w') (by kernel_rfl) h17 (fun hHeld => ?_)
          clear h17 HPW HQW HJR HOB8 HCB8 HRB8 HBB8
          generalize wb.drew = WD at hHeld HPD HQS HQT HJD HCD HRD HBD ⊢
          have ka1 := HOK.out.i
          have ka2 : (k : Int) < (C.A : Int) := by omega
          refine tk (i := 0) (d := some 155) (v := ?_) (hy := Or.inl ⟨by rfl, ?_⟩) (h := ?_)
          rotate_left
          · intro wq hSw
            go_simp
            try with_reducible rfl
          simp only [Act.put, tkA, tkB, tkC]
          refine tk (i := 1) (d := some 156) (v := ?_) (hy := Or.inl ⟨by rfl, ?_⟩) (h := ?_)
          rotate_left
          · intro wq hSw
            go_simp
            try with_reducible rfl
          simp only [Act.put, tkA, tkB, tkC]
          refine tk (i := 2) (d := some 157) (v := ?_) (hy := Or.inl ⟨by rfl, ?_⟩) (h := ?_)
          rotate_left
          · intro wq hSw
            go_simp
            try with_reducible rfl
          simp only [Act.put, tkA, tkB, tkC]
          refine tk (i := 3) (d := some 158) (v := ?_) (hy := Or.inl ⟨by rfl, ?_⟩) (h := ?_)
          rotate_left
          · intro wq hSw
            have hb9 := hSw.1.bl
            have l7 := hb9.lt
            have z7 := hb9.cell 7 _ rfl
            go_simp
            try with_reducible rfl
          simp only [Act.put, tkA, tkB, tkC]
          refine tk (i := 4) (d := some 159) (v := ?_) (hy := Or.inl ⟨by rfl, ?_⟩) (h := ?_)
          rotate_left
          · intro wq hSw
            go_simp
            try with_reducible rfl
          simp only [Act.put, tkA, tkB, tkC]
          refine tk (i := 5) (d := some 160) (v := ?_) (hy := Or.inl ⟨by rfl, ?_⟩) (h := ?_)
          rotate_left
          · intro wq hSw
            go_simp
            try with_reducible rfl
          simp only [Act.put, tkA, tkB, tkC]
          refine tk (i := 6) (d := some 161) (v := ?_) (hy := Or.inl ⟨by rfl, ?_⟩) (h := ?_)
          rotate_left
          · intro wq hSw
            go_simp
            try with_reducible rfl
          simp only [Act.put, tkA, tkB, tkC]
          refine tk (i := 7) (d := some 162) (v := ?_) (hy := Or.inl ⟨by rfl, ?_⟩) (h := ?_)
          rotate_left
          · intro wq hSw
            go_simp
            try with_reducible rfl
          simp only [Act.put, tkA, tkB, tkC]
          refine tk (i := 8) (d := some 163) (v := ?_) (hy := Or.inl ⟨by rfl, ?_⟩) (h := ?_)
          rotate_left
          · intro wq hSw
            have hb9 := hSw.1.bl
            have l7 := hb9.lt
            have z8 := hb9.cell 8 _ rfl
            go_simp
            try with_reducible rfl
          simp only [Act.put, tkA, tkB, tkC]
          refine tk (i := 9) (d := some 164) (v := ?_) (hy := Or.inl ⟨by rfl, ?_⟩) (h := ?_)
          rotate_left
          · intro wq hSw
            go_simp
            try with_reducible rfl
          simp only [Act.put, tkA, tkB, tkC]
          refine tk (i := 10) (d := some 165) (v := ?_) (hy := Or.inl ⟨by rfl, ?_⟩) (h := ?_)
          rotate_left
          · intro wq hSw
            go_simp
            try with_reducible rfl
          simp only [Act.put, tkA, tkB, tkC]
          refine tk (i := 11) (d := some 166) (v := ?_) (hy := Or.inl ⟨by rfl, ?_⟩) (h := ?_)
          rotate_left
          · intro wq hSw
            have hb9 := hSw.2.bl
            have l7 := hb9.lt
            have z0 := hb9.cell 0 _ rfl
            have z1 := hb9.cell 1 _ rfl
            have z2 := hb9.cell 2 _ rfl
            have z3 := hb9.cell 3 _ rfl
            have z4 := hb9.cell 4 _ rfl
            go_simp
            try with_reducible rfl
          simp only [Act.put, tkA, tkB, tkC]
          refine tk (i := 12) (d := some 167) (v := ?_) (hy := Or.inl ⟨by rfl, ?_⟩) (h := ?_)
          rotate_left
          · intro wq hSw
            go_simp
            try with_reducible rfl
          simp only [Act.put, tkA, tkB, tkC]
          refine tk (i := 13) (d := some 168) (v := ?_) (hy := Or.inl ⟨by rfl, ?_⟩) (h := ?_)
          rotate_left
          · intro wq hSw
            have hb9 := hSw.2.bl
            have l7 := hb9.lt
            have z5 := hb9.cell 5 _ rfl
            have z6 := hb9.cell 6 _ rfl
            have z7 := hb9.cell 7 _ rfl
            have z8 := hb9.cell 8 _ rfl
            have z9 := hb9.cell 9 _ rfl
            go_simp
            try with_reducible rfl
          simp only [Act.put, tkA, tkB, tkC]
          refine tk (i := 14) (d := some 169) (v := ?_) (hy := Or.inl ⟨by rfl, ?_⟩) (h := ?_)
          rotate_left
          · intro wq hSw
            go_simp
            try with_reducible rfl
          simp only [Act.put, tkA, tkB, tkC]
          refine wpAnyH_ready (rs := [15]) (by as_aux_lemma => kernel_rfl) (by simp) ?_
          refine AllReadyH.cons rfl (fun K hK => ?_) AllReadyH.nil
          obtain ⟨cs9, hcs9, hsz9⟩ := HQS.out.size k ka1
          refine wp_store_mid 42 (.tmp 169) (.tmp 166) rfl SB (k * 5) #[.int .i64 kd, .bool fl, .int .i64 gn, .int .i64 lf, .int .i64 fs] rfl rfl (there_of hcs9 (k * 5) 5 hsz9) (by kernel_rfl) (by rw [List.all_toArray]; rfl) ?_
          have bk : ∀ x, x ≠ SB → (WD.setCells SB (k * 5) [.int .i64 kd, .bool fl, .int .i64 gn, .int .i64 lf, .int .i64 fs]).heap[x]? = WD.heap[x]? := fun x hx => heap_setCells_ne _ _ _ _ x hx
          have bsz : (WD.setCells SB (k * 5) [.int .i64 kd, .bool fl, .int .i64 gn, .int .i64 lf, .int .i64 fs]).heap.size = WD.heap.size := setCells_size _ _ _ _
          have nQ := ne_ty hcs9 hHeld.1 (by decide)
          have nO := ne_ty hcs9 hHeld.2 (by decide)
          have hq2 := (bk Q (Ne.symm nQ)).trans hHeld.1
          have ho2 := (bk OB (Ne.symm nO)).trans hHeld.2
          have HP2 := Lib.hid (HPD.out.nilfar (fun x hx => bk x (by have := HLO2.out; omega)) (Nat.le_of_eq bsz.symm))
          have HR2 := Lib.hid (HQS.out.set k ka1 ⟨kd, fl, gn, lf, fs⟩)
          have HO2 := Lib.hid (HQT.out.keep (bk _ (by obtain ⟨c9, hc9, _⟩ := HQT.out; exact ne_ty hc9 hcs9 (by decide))))
          have HJ2 := Lib.hid (HJD.out.blocks (fun x hx => bk x (fun e => own_ne HJD.out.row hcs9 (by decide) (by rw [hx, e]))) (fun i hi => bk _ (ne_ty (HJD.out.b i hi).1 hcs9 (by decide))))
          have HC2 := Lib.hid (show BT w.heap.size 23 [.int .i64 (C.p : Int), .int .i64 (C.c : Int), .int .i64 C.n, .int .i64 C.b, .int .i64 C.r, .int .i64 (C.f : Int), .int .i64 (C.g : Int)] _ from (bk _ (ne_ty HCD.out hcs9 (by decide))).trans HCD.out)
          have HR3 := Lib.hid (show BT RB 52 [.int .i64 (C.p : Int), .int .i64 (C.c : Int), .int .i64 C.n, .int .i64 C.b, .int .i64 C.r, .int .i64 (C.f : Int), .int .i64 (C.g : Int)] _ from (bk _ (ne_ty HRD.out hcs9 (by decide))).trans HRD.out)
          have HB2 := Lib.hid (setCells_below HBD.out (show w.heap.size ≤ SB from by have := HLO2.out; have := HLO.out; have := HK4.out; omega) [.int .i64 kd, .bool fl, .int .i64 gn, .int .i64 lf, .int .i64 fs] (k * 5))
          refine hK.out _ _ ⟨hq2, ho2⟩ (fun hHeld => ?_)
          clear hK K hcs9 hsz9 bk bsz nQ nO hq2 ho2 HPD HQS HQT HJD HCD HRD HBD
          try simp only [Act.put, tkA, tkB, tkC]
          generalize WD.setCells SB (k * 5) [.int .i64 kd, .bool fl, .int .i64 gn, .int .i64 lf, .int .i64 fs] = wd at hHeld HP2 HR2 HO2 HJ2 HC2 HR3 HB2 ⊢
          have HPD := HP2
          have HQS := HR2
          have HQT := HO2
          have HJD := HJ2
          have HCD := HC2
          have HRD := HR3
          have HBD := HB2
          clear HP2 HR2 HO2 HJ2 HC2 HR3 HB2
          refine tk (i := 16) (d := some 170) (v := ?_) (hy := Or.inl ⟨by rfl, ?_⟩) (h := ?_)
          rotate_left
          · intro wq hSw
            go_simp
            try with_reducible rfl
          simp only [Act.put, tkA, tkB, tkC]
          refine wpAnyH_ready (rs := [17]) (by as_aux_lemma => kernel_rfl) (by simp) ?_
          refine AllReadyH.cons rfl (fun K hK => ?_) AllReadyH.nil
          obtain ⟨cs9, hcs9, hsz9⟩ := HQT.out.size k ka1
          refine wp_store_mid 44 (.tmp 170) (.tmp 168) rfl TB (k * 5) #[.int .i64 tn, .int .i64 ts, .int .i64 tp, .int .i64 tl, .int .i64 tu] rfl rfl (there_of hcs9 (k * 5) 5 hsz9) (by kernel_rfl) (by rw [List.all_toArray]; rfl) ?_
          have bk : ∀ x, x ≠ TB → (wd.setCells TB (k * 5) [.int .i64 tn, .int .i64 ts, .int .i64 tp, .int .i64 tl, .int .i64 tu]).heap[x]? = wd.heap[x]? := fun x hx => heap_setCells_ne _ _ _ _ x hx
          have bsz : (wd.setCells TB (k * 5) [.int .i64 tn, .int .i64 ts, .int .i64 tp, .int .i64 tl, .int .i64 tu]).heap.size = wd.heap.size := setCells_size _ _ _ _
          have nQ := ne_ty hcs9 hHeld.1 (by decide)
          have nO := ne_ty hcs9 hHeld.2 (by decide)
          have hq2 := (bk Q (Ne.symm nQ)).trans hHeld.1
          have ho2 := (bk OB (Ne.symm nO)).trans hHeld.2
          have HP2 := Lib.hid (HPD.out.nilfar (fun x hx => bk x (by have := HLO2.out; omega)) (Nat.le_of_eq bsz.symm))
          have HR2 := Lib.hid (HQT.out.set k ka1 ⟨tn, ts, tp, tl, tu⟩)
          have HO2 := Lib.hid (HQS.out.keep (bk _ (by obtain ⟨c9, hc9, _⟩ := HQS.out; exact ne_ty hc9 hcs9 (by decide))))
          have HJ2 := Lib.hid (HJD.out.blocks (fun x hx => bk x (fun e => own_ne HJD.out.row hcs9 (by decide) (by rw [hx, e]))) (fun i hi => bk _ (ne_ty (HJD.out.b i hi).1 hcs9 (by decide))))
          have HC2 := Lib.hid (show BT w.heap.size 23 [.int .i64 (C.p : Int), .int .i64 (C.c : Int), .int .i64 C.n, .int .i64 C.b, .int .i64 C.r, .int .i64 (C.f : Int), .int .i64 (C.g : Int)] _ from (bk _ (ne_ty HCD.out hcs9 (by decide))).trans HCD.out)
          have HR3 := Lib.hid (show BT RB 52 [.int .i64 (C.p : Int), .int .i64 (C.c : Int), .int .i64 C.n, .int .i64 C.b, .int .i64 C.r, .int .i64 (C.f : Int), .int .i64 (C.g : Int)] _ from (bk _ (ne_ty HRD.out hcs9 (by decide))).trans HRD.out)
          have HB2 := Lib.hid (setCells_below HBD.out (show w.heap.size ≤ TB from by have := HLO2.out; have := HLO.out; have := HK4.out; omega) [.int .i64 tn, .int .i64 ts, .int .i64 tp, .int .i64 tl, .int .i64 tu] (k * 5))
          refine hK.out _ _ ⟨hq2, ho2⟩ (fun hHeld => ?_)
          clear hK K hcs9 hsz9 bk bsz nQ nO hq2 ho2 HPD HQT HQS HJD HCD HRD HBD
          try simp only [Act.put, tkA, tkB, tkC]
          generalize wd.setCells TB (k * 5) [.int .i64 tn, .int .i64 ts, .int .i64 tp, .int .i64 tl, .int .i64 tu] = we at hHeld HP2 HR2 HO2 HJ2 HC2 HR3 HB2 ⊢
          have HPD := HP2
          have HQT := HR2
          have HQS := HO2
          have HJD := HJ2
          have HCD := HC2
          have HRD := HR3
          have HBD := HB2
          clear HP2 HR2 HO2 HJ2 HC2 HR3 HB2
          refine wpAnyH_done (by as_aux_lemma => kernel_rfl) ?_ _
          have kb : (k : Int) < 24 := by have := h24.out; have := HOK.out.i; omega
          go_wp2_with fail
          have kf : (k : Int) + 1 = ((k + 1 : Nat) : Int) := by omega
          have HFIN := Lib.hid (show BothAt C K4 W M B Ck Q SB TB (Mm.upd (Mm.upd ws (2 * k) sw) (2 * k + 1) tww) jv Jb K4 (k + 1) g we from
            ⟨by have := HPD.out; rw [show 2 * (k : Int) + 1 + 1 = 2 * ((k + 1 : Nat) : Int) from by omega] at this; exact this,
             by
              have h1 := (HRL2.out.state k HOK.out.i ⟨kd, fl, gn, lf, fs⟩ HOK.out.s (by have hg9 : gn ≤ (C.g : Int) := HOK.out.g.2; have := HC.out.hg; show gn ≤ 15; omega)).word k HOK.out.i ⟨tn, ts, tp, tl, tu⟩ HOK.out.t (Or.inl HOK.out.c.p)
              rw [Sg_succ, Tg_succ, HGK.out, HSW2.out, HTW2.out]
              exact h1,
             ⟨hHeld.1, by rw [Sg_succ, HGK.out]; exact HQS.out, by rw [Tg_succ, HGK.out]; exact HQT.out⟩, HJD.out, HLO2.out,
             fun i hi => by
              by_cases e : i = k
              · subst e; rw [HGK.out]; exact HOK.out
              · exact HOKS.out i (by omega)⟩)
          clear kf ka1 ka2
          go_roundw
          case rel => exact ⟨k + 1, _, HKL.out.2, by go_num, HFIN, HCD, HRD, HBD⟩
          case measure => have := HKL.out.2; simp [intOf]; omega
    · obtain rfl : k = len := by omega
      have hd : decide ((k : Int) < (k : Int)) = false := decide_eq_false (by omega)
      go_wp2_with fail
      go_ret3
      exact Or.inl ⟨HBA.out.ok, K4, W, M, B, Ck, Q, SB, TB, ws, jv, Jb, K4, rfl, HBA.out, HLO.out, HBB.out⟩
end
end Go.Proofs.Ytmjkhefgpobinaa

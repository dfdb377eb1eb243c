/-
  Texts of the machine of pairs, part 7.
-/
import Derived.Stop.Asserts
import Derived.RowKitTokens
import Derived.LaidEql
import Derived.Test.YtmjkhefgpobinaaM1
namespace Go.Proofs.Ytmjkhefgpobinaa.Mm
open Go.ChangeShapes Go.WideShapes Go.ChangeAt Go.RowKit
/-- A fault at a place, round a code. -/
def AtF (w w' : World) (c i : Int) (v : Value) : Prop := ∃ pb : Nat, v = .iface 154 (.pointer (some ⟨pb, 0, none⟩)) ∧ w.heap.size ≤ pb ∧ pb < w'.heap.size ∧ w'.cell? ⟨pb, 0, none⟩ = some (.int .i64 i) ∧ w'.cell? ⟨pb, 1, none⟩ = some (.iface 126 (.int .i64 c))
theorem AtF.below {w w1 w2 : World} {c i : Int} {v : Value} (h : AtF w w1 c i v) (hb : Below w1.heap.size w1 w2) : AtF w w2 c i v := by
  obtain ⟨pb, e, h1, h2, c0, c1⟩ := h
  exact ⟨pb, e, h1, Nat.lt_of_lt_of_le h2 hb.size, (hb.cell (p := ⟨pb, 0, none⟩) h2).trans c0, (hb.cell (p := ⟨pb, 1, none⟩) h2).trans c1⟩
theorem AtF.setRow {w w1 : World} {c i : Int} {v : Value} {g : Nat} (h : AtF w w1 c i v) (hg : g < w.heap.size) (cs : Array Value) : AtF w (w1.setRow g cs) c i v := by
  obtain ⟨pb, e, h1, h2, c0, c1⟩ := h
  refine ⟨pb, e, h1, by simpa using h2, ?_, ?_⟩
  · rw [cell_setRow_other _ _ _ _ (by show pb ≠ g; omega)]; exact c0
  · rw [cell_setRow_other _ _ _ _ (by show pb ≠ g; omega)]; exact c1
theorem AtF.low {w0 w w1 : World} {c i : Int} {v : Value} (h : AtF w w1 c i v) (hs : w0.heap.size ≤ w.heap.size) : AtF w0 w1 c i v := by
  obtain ⟨pb, e, h1, h2, c0, c1⟩ := h
  exact ⟨pb, e, Nat.le_trans hs h1, h2, c0, c1⟩
def AtSays (c k : Int) (w : World) (e : Ending) (w' : World) : Prop := ∃ v, e = .returned v ∧ AtF w w' c k v ∧ Below w.heap.size w w'
set_option maxHeartbeats 1000000 in
theorem at_code (k c : Int) (w : World) : Calls Try.prog 52 #[.int .i64 k, .iface 126 (.int .i64 c)] w (AtSays c k w) := by
  go_enter Try.func52, Try.ntmps52
  go_wp2
  go_ret
  exact ⟨_, rfl, ⟨w.heap.size, rfl, Nat.le_refl _, by simp, by simp [go_sem], by simp [go_sem]⟩, by go_grown⟩
theorem frozen_setCell (w : World) (a b : Addr) (v : Value) : (w.setCell a v).frozen? b = w.frozen? b := by simp [go_sem]
theorem addr_ne {a b i j : Nat} (h : a ≠ b ∨ i ≠ j) : (⟨a, i, none⟩ : Addr) ≠ ⟨b, j, none⟩ := by
  intro e; injection e with e1 e2; rcases h with h | h
  · exact h e1
  · exact h e2
theorem cell_other (w : World) (a b i j : Nat) (v : Value) (h : a ≠ b ∨ i ≠ j) : (w.setCell ⟨a, i, none⟩ v).cell? ⟨b, j, none⟩ = w.cell? ⟨b, j, none⟩ := World.cell?_setCell_other _ _ _ _ (addr_ne h)
theorem cell_same (w : World) (a i : Nat) (v u : Value) (h : w.cell? ⟨a, i, none⟩ = some u) : (w.setCell ⟨a, i, none⟩ v).cell? ⟨a, i, none⟩ = some v := World.cell?_setCell_same _ _ _ h
theorem blk_frozen {w : World} {g : Nat} {t : TypeId} {cs : Array Value} (h : w.heap[g]? = some (.cells cs t (0, 0))) (i : Nat) : w.frozen? ⟨g, i, none⟩ = false := by
  simp [World.frozen?, h]
theorem blk_lt {w : World} {g : Nat} {o : Obj} (h : w.heap[g]? = some o) : g < w.heap.size := by
  rcases Nat.lt_or_ge g w.heap.size with hlt | hge
  · exact hlt
  · rw [Array.getElem?_eq_none hge] at h; cases h
/-- Shared words: the struct's block M, the words' block B. -/
structure MemAt (M B n c : Nat) (A : Option Addr) (ws : Nat → Int) (st k a p q : Int) (d : Bool) (w : World) : Prop where
  c0 : w.cell? ⟨M, 0, none⟩ = some (.slice A n c)
  c1 : w.cell? ⟨M, 1, none⟩ = some (.int .i64 st)
  c2 : w.cell? ⟨M, 2, none⟩ = some (.int .i64 k)
  c3 : w.cell? ⟨M, 3, none⟩ = some (.int .i64 a)
  c4 : w.cell? ⟨M, 4, none⟩ = some (.int .u64 p)
  c5 : w.cell? ⟨M, 5, none⟩ = some (.int .u64 q)
  c6 : w.cell? ⟨M, 6, none⟩ = some (.bool d)
  fz : ∀ o, o < 7 → w.frozen? ⟨M, o, none⟩ = false
  ml : M < w.heap.size
  wd : ∀ i, i < n → A = some ⟨B, 0, none⟩ ∧ B < w.heap.size ∧ w.cell? ⟨B, i, none⟩ = some (.int .u64 (ws i)) ∧ w.frozen? ⟨B, i, none⟩ = false ∧ 0 ≤ ws i ∧ ws i ≤ 18446744073709551615
  ne : M ≠ B
  ha : A = some ⟨B, 0, none⟩
  bl : B < w.heap.size
def upd (ws : Nat → Int) (i : Nat) (x : Int) : Nat → Int := fun j => if j = i then x else ws j
theorem MemAt.below {M B n c : Nat} {A : Option Addr} {ws : Nat → Int} {st k a p q : Int} {d : Bool} {w w' : World} (h : MemAt M B n c A ws st k a p q d w) (hb : Below w.heap.size w w') : MemAt M B n c A ws st k a p q d w' := by
  have hc : ∀ o, w'.cell? ⟨M, o, none⟩ = w.cell? ⟨M, o, none⟩ := fun o => hb.cell (p := ⟨M, o, none⟩) h.ml
  refine ⟨(hc 0).trans h.c0, (hc 1).trans h.c1, (hc 2).trans h.c2, (hc 3).trans h.c3, (hc 4).trans h.c4, (hc 5).trans h.c5, (hc 6).trans h.c6, fun o ho => (hb.frozen (p := ⟨M, o, none⟩) h.ml).trans (h.fz o ho), Nat.lt_of_lt_of_le h.ml hb.size, fun i hi => ?_, h.ne, h.ha, Nat.lt_of_lt_of_le h.bl hb.size⟩
  obtain ⟨h1, h2, h3, h4, h5⟩ := h.wd i hi
  exact ⟨h1, Nat.lt_of_lt_of_le h2 hb.size, (hb.cell (p := ⟨B, i, none⟩) h2).trans h3, (hb.frozen (p := ⟨B, i, none⟩) h2).trans h4, h5⟩
theorem frz (w : World) (a b : Addr) (v : Value) : (w.setCell a v).frozen? b = w.frozen? b := by simp [go_sem]
set_option maxHeartbeats 2000000 in
theorem refused_nil (at_ : Int) (w : World) : Calls Try.prog 43 #[.pointer none, .int .i64 at_] w fun e w' => e = .returned (.iface 126 (.int .i64 2)) ∧ w = w' := by
  go_enter Try.func43, Try.ntmps43
  go_wp2
  go_ret
  exact ⟨rfl, rfl⟩
set_option maxHeartbeats 2000000 in
theorem refused_in {M B n c : Nat} {A : Option Addr} {ws : Nat → Int} {st k a p q : Int} {d : Bool} {w : World} (h : MemAt M B n c A ws st k a p q d w) (i : Nat) (hi : i < n) : Calls Try.prog 43 #[.pointer (some ⟨M, 0, none⟩), .int .i64 (i : Int)] w fun e w' => e = .returned .nilIface ∧ w = w' := by
  have c0 := h.c0
  have h1 : (i : Int) < (n : Int) := by omega
  go_enter Try.func43, Try.ntmps43
  go_wp2
  go_ret
  exact ⟨rfl, rfl⟩
set_option maxHeartbeats 2000000 in
theorem refused_out {M B n c : Nat} {A : Option Addr} {ws : Nat → Int} {st k a p q : Int} {d : Bool} {w : World} (h : MemAt M B n c A ws st k a p q d w) (i : Int) (hi : i < 0 ∨ (n : Int) ≤ i) : Calls Try.prog 43 #[.pointer (some ⟨M, 0, none⟩), .int .i64 i] w (AtSays 5 i w) := by
  have c0 := h.c0
  by_cases h0 : i < 0
  · clear hi
    go_enter Try.func43, Try.ntmps43
    go_wp2_with fail
    refine (at_code _ _ _).mono ?_
    rintro e w1 ⟨v, rfl, hF, hb1⟩
    have HF := Lib.hid hF
    clear hF
    go_wp2
    go_ret
    exact ⟨_, rfl, HF.out, hb1⟩
  · have h1 : (n : Int) ≤ i := by omega
    clear hi
    go_enter Try.func43, Try.ntmps43
    go_wp2_with fail
    refine (at_code _ _ _).mono ?_
    rintro e w1 ⟨v, rfl, hF, hb1⟩
    have HF := Lib.hid hF
    clear hF
    go_wp2
    go_ret
    exact ⟨_, rfl, HF.out, hb1⟩
/-- All but two blocks stays. -/
def Oth (M B : Nat) (w w' : World) : Prop := w'.os = w.os ∧ w'.tape = w.tape ∧ w'.output = w.output ∧ w.heap.size ≤ w'.heap.size ∧ ∀ g, g < w.heap.size → g ≠ M → g ≠ B → w'.heap[g]? = w.heap[g]?
theorem Oth.below {M B b : Nat} {w0 w w' : World} (h : Oth M B w w') (hm : b ≤ M) (hb : b ≤ B) (hs : b ≤ w.heap.size) (h0 : Below b w0 w) : Below b w0 w' :=
  ⟨h.1.trans h0.os, h.2.1.trans h0.tape, h.2.2.1.trans h0.output, Nat.le_trans h0.size h.2.2.2.1, fun g hg => by
    exact (h.2.2.2.2 g (by omega) (by omega) (by omega)).trans (h0.block g hg)⟩
theorem Oth.trans {M B : Nat} {w w1 w2 : World} (h : Oth M B w w1) (g : Oth M B w1 w2) : Oth M B w w2 :=
  ⟨g.1.trans h.1, g.2.1.trans h.2.1, g.2.2.1.trans h.2.2.1, Nat.le_trans h.2.2.2.1 g.2.2.2.1, fun x hx h1 h2 => (g.2.2.2.2 x (Nat.lt_of_lt_of_le hx h.2.2.2.1) h1 h2).trans (h.2.2.2.2 x hx h1 h2)⟩
theorem Oth.of {M B : Nat} {w w' : World} (h : Below w.heap.size w w') : Oth M B w w' := ⟨h.os, h.tape, h.output, h.size, fun g hg _ _ => h.block g hg⟩
theorem Oth.refl (M B : Nat) (w : World) : Oth M B w w := ⟨rfl, rfl, rfl, Nat.le_refl _, fun _ _ _ _ => rfl⟩
theorem Oth.set {M B : Nat} {w w1 : World} (h : Oth M B w w1) (g i : Nat) (v : Value) (hg : g = M ∨ g = B) : Oth M B w (w1.setCell ⟨g, i, none⟩ v) :=
  ⟨h.1, h.2.1, h.2.2.1, by rw [World.size_setCell]; exact h.2.2.2.1, fun x hx h1 h2 => by
    rw [Below.heap_setCell _ _ _ _ (show x ≠ g from by rcases hg with rfl | rfl <;> assumption)]; exact h.2.2.2.2 x hx h1 h2⟩
/-- A step: its words, and what else there is. -/
def Stepped (M B n c : Nat) (A : Option Addr) (ws : Nat → Int) (st k a p q : Int) (d : Bool) (v : Value) (w : World) (e : Ending) (w' : World) : Prop :=
  e = .returned v ∧ MemAt M B n c A ws st k a p q d w' ∧ w'.heap.size = w.heap.size ∧ (∀ b w0, b ≤ M → b ≤ B → Below b w0 w → Below b w0 w') ∧ Oth M B w w'
set_option maxHeartbeats 4000000 in
theorem step_is {M B n c : Nat} {A : Option Addr} {ws : Nat → Int} {st k a p q : Int} {d : Bool} {w : World} (h : MemAt M B n c A ws st k a p q d w) (kind : Int) (i : Nat) (hi : i < n) (x : Int) (dn : Bool) (hx : 0 ≤ x ∧ x ≤ 18446744073709551615) (hs : 0 ≤ st ∧ st ≤ 1000000) :
    Calls Try.prog 44 #[.pointer (some ⟨M, 0, none⟩), .int .i64 kind, .int .i64 (i : Int), .int .u64 x, .bool dn] w (Stepped M B n c A (upd ws i x) (st + 1) kind i (ws i) x dn (.tuple #[]) w) := by
  obtain ⟨rfl, hB, hw, hf, hwb⟩ := h.wd i hi
  have H := Lib.hid h
  have c0 := h.c0
  have c1 := h.c1
  have c2 := h.c2
  have c3 := h.c3
  have c4 := h.c4
  have c5 := h.c5
  have c6 := h.c6
  have f0 := h.fz 0 (by decide)
  have f1 := h.fz 1 (by decide)
  have f2 := h.fz 2 (by decide)
  have f3 := h.fz 3 (by decide)
  have f4 := h.fz 4 (by decide)
  have f5 := h.fz 5 (by decide)
  have f6 := h.fz 6 (by decide)
  have hne := h.ne
  have hi0 : (0 : Int) ≤ (i : Int) := by omega
  have hi1 : (i : Int) < (n : Int) := by omega
  have hs1 := hs.1
  have hs2 := hs.2
  clear h hwb hs
  go_enter Try.func44, Try.ntmps44
  go_wp2
  have hne2 : B ≠ M := fun e => hne e.symm
  go_end0
  have hN : ∀ i j, (⟨M, i, none⟩ : Addr) ≠ ⟨B, j, none⟩ := fun i j => addr_ne (.inl hne)
  have hN2 : ∀ i j, (⟨B, i, none⟩ : Addr) ≠ ⟨M, j, none⟩ := fun i j => addr_ne (.inl hne2)
  have e9 : ∀ (w : World) (b o j : Nat) (v : Value), b ≠ B → (w.setCell ⟨B, j, none⟩ v).cell? ⟨b, o, none⟩ = w.cell? ⟨b, o, none⟩ := fun w b o j v h => cell_other w B b j o v (.inl (Ne.symm h))
  have e8 : ∀ (w : World) (o j : Nat) (v : Value), (w.setCell ⟨M, j, none⟩ v).cell? ⟨B, o, none⟩ = w.cell? ⟨B, o, none⟩ := fun w o j v => cell_other w M B j o v (.inl hne)
  refine ⟨rfl, ⟨?_, ?_, ?_, ?_, ?_, ?_, ?_, fun o ho => ?_, ?_, fun j hj => ?_, hne, H.out.ha, by simp only [World.size_setCell]; exact H.out.bl⟩, ?_, fun b w0 h1 h2 h3 => ?_, ?_⟩
  · rw [cell_other _ _ _ _ _ _ (.inr (by decide)), e9 _ _ _ _ _ hne, cell_other _ _ _ _ _ _ (.inr (by decide)), cell_other _ _ _ _ _ _ (.inr (by decide)), cell_other _ _ _ _ _ _ (.inr (by decide)), cell_other _ _ _ _ _ _ (.inr (by decide)), cell_other _ _ _ _ _ _ (.inr (by decide))]; exact c0
  · refine cell_same _ _ _ _ (.int .i64 st) ?_
    rw [e9 _ _ _ _ _ hne, cell_other _ _ _ _ _ _ (.inr (by decide)), cell_other _ _ _ _ _ _ (.inr (by decide)), cell_other _ _ _ _ _ _ (.inr (by decide)), cell_other _ _ _ _ _ _ (.inr (by decide)), cell_other _ _ _ _ _ _ (.inr (by decide))]; exact c1
  · rw [cell_other _ _ _ _ _ _ (.inr (by decide)), e9 _ _ _ _ _ hne, cell_other _ _ _ _ _ _ (.inr (by decide)), cell_other _ _ _ _ _ _ (.inr (by decide)), cell_other _ _ _ _ _ _ (.inr (by decide)), cell_other _ _ _ _ _ _ (.inr (by decide))]; exact cell_same _ _ _ _ _ c2
  · rw [cell_other _ _ _ _ _ _ (.inr (by decide)), e9 _ _ _ _ _ hne, cell_other _ _ _ _ _ _ (.inr (by decide)), cell_other _ _ _ _ _ _ (.inr (by decide)), cell_other _ _ _ _ _ _ (.inr (by decide))]
    refine cell_same _ _ _ _ (.int .i64 a) ?_
    rw [cell_other _ _ _ _ _ _ (.inr (by decide))]; exact c3
  · rw [cell_other _ _ _ _ _ _ (.inr (by decide)), e9 _ _ _ _ _ hne, cell_other _ _ _ _ _ _ (.inr (by decide)), cell_other _ _ _ _ _ _ (.inr (by decide))]
    refine cell_same _ _ _ _ (.int .u64 p) ?_
    rw [cell_other _ _ _ _ _ _ (.inr (by decide)), cell_other _ _ _ _ _ _ (.inr (by decide))]; exact c4
  · rw [cell_other _ _ _ _ _ _ (.inr (by decide)), e9 _ _ _ _ _ hne, cell_other _ _ _ _ _ _ (.inr (by decide))]
    refine cell_same _ _ _ _ (.int .u64 q) ?_
    rw [cell_other _ _ _ _ _ _ (.inr (by decide)), cell_other _ _ _ _ _ _ (.inr (by decide)), cell_other _ _ _ _ _ _ (.inr (by decide))]; exact c5
  · rw [cell_other _ _ _ _ _ _ (.inr (by decide)), e9 _ _ _ _ _ hne]
    refine cell_same _ _ _ _ (.bool d) ?_
    rw [cell_other _ _ _ _ _ _ (.inr (by decide)), cell_other _ _ _ _ _ _ (.inr (by decide)), cell_other _ _ _ _ _ _ (.inr (by decide)), cell_other _ _ _ _ _ _ (.inr (by decide))]; exact c6
  · simp only [frozen_setCell]; exact H.out.fz o ho
  · simp only [World.size_setCell]; exact H.out.ml
  · obtain ⟨g1, g2, g3, g4, g5⟩ := H.out.wd j hj
    refine ⟨g1, by simp only [World.size_setCell]; exact g2, ?_, by simp only [frozen_setCell]; exact g4, ?_⟩
    · rw [e8]
      by_cases hji : j = i
      · subst hji
        rw [show upd ws j x j = x from if_pos rfl]
        refine cell_same _ _ _ _ (.int .u64 (ws j)) ?_
        rw [e8, e8, e8, e8, e8]; exact g3
      · rw [show upd ws i x j = ws j from if_neg hji, cell_other _ _ _ _ _ _ (.inr (fun e => hji e.symm)), e8, e8, e8, e8, e8]; exact g3
    · unfold upd
      by_cases hji : j = i
      · rw [if_pos hji]; exact hx
      · rw [if_neg hji]; exact g5
  · simp only [World.size_setCell]
  · exact ((((((h3.setCell h1 _).setCell h1 _).setCell h1 _).setCell h1 _).setCell h1 _).setCell h2 _).setCell h1 _
  · exact (((((((Oth.refl M B w).set M _ _ (.inl rfl)).set M _ _ (.inl rfl)).set M _ _ (.inl rfl)).set M _ _ (.inl rfl)).set M _ _ (.inl rfl)).set B _ _ (.inr rfl)).set M _ _ (.inl rfl)
set_option maxHeartbeats 2000000 in
theorem load_in {M B n c : Nat} {A : Option Addr} {ws : Nat → Int} {st k a p q : Int} {d : Bool} {w : World} (h : MemAt M B n c A ws st k a p q d w) (i : Nat) (hi : i < n) (hs : 0 ≤ st ∧ st ≤ 1000000) :
    Calls Try.prog 16 #[.pointer (some ⟨M, 0, none⟩), .int .i64 (i : Int)] w (Stepped M B n c A (upd ws i (ws i)) (st + 1) 1 i (ws i) (ws i) true (.tuple #[.int .u64 (ws i), .nilIface]) w) := by
  obtain ⟨rfl, hB, hw, hf, hwb⟩ := h.wd i hi
  have H := Lib.hid h
  have c0 := h.c0
  have HS := Lib.hid hs
  have HWB := Lib.hid hwb
  have hi0 : (0 : Int) ≤ (i : Int) := by omega
  have hi1 : (i : Int) < (n : Int) := by omega
  clear h hwb hs
  go_enter Try.func16, Try.ntmps16
  go_wp2_with fail
  refine (refused_in H.out i hi).mono ?_
  rintro e w' ⟨rfl, rfl⟩
  go_wp2_with fail
  refine (step_is H.out 1 i hi (ws i) true HWB.out HS.out).mono ?_
  rintro e w1 ⟨rfl, hM, hz, hK⟩
  have HM := Lib.hid hM
  have HK := Lib.hid hK
  clear hM hK
  go_wp2
  go_ret2
  exact ⟨rfl, HM.out, hz, HK.out⟩
set_option maxHeartbeats 2000000 in
theorem store_in {M B n c : Nat} {A : Option Addr} {ws : Nat → Int} {st k a p q : Int} {d : Bool} {w : World} (h : MemAt M B n c A ws st k a p q d w) (i : Nat) (hi : i < n) (x : Int) (hx : 0 ≤ x ∧ x ≤ 18446744073709551615) (hs : 0 ≤ st ∧ st ≤ 1000000) :
    Calls Try.prog 33 #[.pointer (some ⟨M, 0, none⟩), .int .i64 (i : Int), .int .u64 x] w (Stepped M B n c A (upd ws i x) (st + 1) 2 i (ws i) x true (.nilIface) w) := by
  obtain ⟨rfl, hB, hw, hf, hwb⟩ := h.wd i hi
  have H := Lib.hid h
  have c0 := h.c0
  have HS := Lib.hid hs
  have HWB := Lib.hid hwb
  have hi0 : (0 : Int) ≤ (i : Int) := by omega
  have hi1 : (i : Int) < (n : Int) := by omega
  have HX := Lib.hid hx
  clear hx
  clear h hwb hs
  go_enter Try.func33, Try.ntmps33
  go_wp2_with fail
  refine (refused_in H.out i hi).mono ?_
  rintro e w' ⟨rfl, rfl⟩
  go_wp2_with fail
  refine (step_is H.out 2 i hi x true HX.out HS.out).mono ?_
  rintro e w1 ⟨rfl, hM, hz, hK⟩
  have HM := Lib.hid hM
  have HK := Lib.hid hK
  clear hM hK
  go_wp2
  go_ret
  exact ⟨rfl, HM.out, hz, HK.out⟩
set_option maxHeartbeats 2000000 in
theorem swap_yes {M B n c : Nat} {A : Option Addr} {ws : Nat → Int} {st k a p q : Int} {d : Bool} {w : World} (h : MemAt M B n c A ws st k a p q d w) (i : Nat) (hi : i < n) (old x : Int) (hx : 0 ≤ x ∧ x ≤ 18446744073709551615) (hs : 0 ≤ st ∧ st ≤ 1000000) (ho : ws i = old) :
    Calls Try.prog 51 #[.pointer (some ⟨M, 0, none⟩), .int .i64 (i : Int), .int .u64 old, .int .u64 x] w (Stepped M B n c A (upd ws i x) (st + 1) 3 i (ws i) x true (.tuple #[.bool true, .nilIface]) w) := by
  obtain ⟨rfl, hB, hw, hf, hwb⟩ := h.wd i hi
  have H := Lib.hid h
  have c0 := h.c0
  have HS := Lib.hid hs
  have HWB := Lib.hid hwb
  have hi0 : (0 : Int) ≤ (i : Int) := by omega
  have hi1 : (i : Int) < (n : Int) := by omega
  have HX := Lib.hid hx
  have hbn : (ws i != old) = false := by rw [ho]; simp
  clear hx ho
  clear h hwb hs
  go_enter Try.func51, Try.ntmps51
  go_wp2_with fail
  refine (refused_in H.out i hi).mono ?_
  rintro e w' ⟨rfl, rfl⟩
  go_wp2_with fail
  refine (step_is H.out 3 i hi x true HX.out HS.out).mono ?_
  rintro e w1 ⟨rfl, hM, hz, hK⟩
  have HM := Lib.hid hM
  have HK := Lib.hid hK
  clear hM hK
  go_wp2
  go_ret2
  exact ⟨rfl, HM.out, hz, HK.out⟩
set_option maxHeartbeats 2000000 in
theorem swap_no {M B n c : Nat} {A : Option Addr} {ws : Nat → Int} {st k a p q : Int} {d : Bool} {w : World} (h : MemAt M B n c A ws st k a p q d w) (i : Nat) (hi : i < n) (old x : Int) (hs : 0 ≤ st ∧ st ≤ 1000000) (ho : ws i ≠ old) :
    Calls Try.prog 51 #[.pointer (some ⟨M, 0, none⟩), .int .i64 (i : Int), .int .u64 old, .int .u64 x] w (Stepped M B n c A (upd ws i (ws i)) (st + 1) 3 i (ws i) (ws i) false (.tuple #[.bool false, .nilIface]) w) := by
  obtain ⟨rfl, hB, hw, hf, hwb⟩ := h.wd i hi
  have H := Lib.hid h
  have c0 := h.c0
  have HS := Lib.hid hs
  have HWB := Lib.hid hwb
  have hi0 : (0 : Int) ≤ (i : Int) := by omega
  have hi1 : (i : Int) < (n : Int) := by omega
  have hbn : (ws i != old) = true := by rw [bne_iff_ne]; exact ho
  clear ho
  clear h hwb hs
  go_enter Try.func51, Try.ntmps51
  go_wp2_with fail
  refine (refused_in H.out i hi).mono ?_
  rintro e w' ⟨rfl, rfl⟩
  go_wp2_with fail
  refine (step_is H.out 3 i hi (ws i) false HWB.out HS.out).mono ?_
  rintro e w1 ⟨rfl, hM, hz, hK⟩
  have HM := Lib.hid hM
  have HK := Lib.hid hK
  clear hM hK
  go_wp2
  go_ret2
  exact ⟨rfl, HM.out, hz, HK.out⟩
set_option maxHeartbeats 2000000 in
theorem load_out {M B n c : Nat} {A : Option Addr} {ws : Nat → Int} {st k a p q : Int} {d : Bool} {w : World} (h : MemAt M B n c A ws st k a p q d w) (i : Int) (hi : i < 0 ∨ (n : Int) ≤ i) :
    Calls Try.prog 16 #[.pointer (some ⟨M, 0, none⟩), .int .i64 i] w fun e w' => ∃ v, e = .returned (.tuple #[.int .u64 0, v]) ∧ AtF w w' 5 i v ∧ Below w.heap.size w w' := by
  have H := Lib.hid h
  have HI := Lib.hid hi
  clear h hi
  go_enter Try.func16, Try.ntmps16
  go_wp2_with fail
  refine (refused_out H.out i HI.out).mono ?_
  rintro e w1 ⟨v, rfl, hF, hb1⟩
  have HF := Lib.hid hF
  obtain ⟨pb, rfl, _⟩ := id hF
  clear hF
  go_wp2
  go_ret2
  exact ⟨_, rfl, HF.out, hb1⟩
set_option maxHeartbeats 2000000 in
theorem store_out {M B n c : Nat} {A : Option Addr} {ws : Nat → Int} {st k a p q : Int} {d : Bool} {w : World} (h : MemAt M B n c A ws st k a p q d w) (i : Int) (hi : i < 0 ∨ (n : Int) ≤ i) (x : Int) :
    Calls Try.prog 33 #[.pointer (some ⟨M, 0, none⟩), .int .i64 i, .int .u64 x] w fun e w' => ∃ v, e = .returned (v) ∧ AtF w w' 5 i v ∧ Below w.heap.size w w' := by
  have H := Lib.hid h
  have HI := Lib.hid hi
  clear h hi
  go_enter Try.func33, Try.ntmps33
  go_wp2_with fail
  refine (refused_out H.out i HI.out).mono ?_
  rintro e w1 ⟨v, rfl, hF, hb1⟩
  have HF := Lib.hid hF
  obtain ⟨pb, rfl, _⟩ := id hF
  clear hF
  go_wp2
  go_ret
  exact ⟨_, rfl, HF.out, hb1⟩
set_option maxHeartbeats 2000000 in
theorem swap_out {M B n c : Nat} {A : Option Addr} {ws : Nat → Int} {st k a p q : Int} {d : Bool} {w : World} (h : MemAt M B n c A ws st k a p q d w) (i : Int) (hi : i < 0 ∨ (n : Int) ≤ i) (old x : Int) :
    Calls Try.prog 51 #[.pointer (some ⟨M, 0, none⟩), .int .i64 i, .int .u64 old, .int .u64 x] w fun e w' => ∃ v, e = .returned (.tuple #[.bool false, v]) ∧ AtF w w' 5 i v ∧ Below w.heap.size w w' := by
  have H := Lib.hid h
  have HI := Lib.hid hi
  clear h hi
  go_enter Try.func51, Try.ntmps51
  go_wp2_with fail
  refine (refused_out H.out i HI.out).mono ?_
  rintro e w1 ⟨v, rfl, hF, hb1⟩
  have HF := Lib.hid hF
  obtain ⟨pb, rfl, _⟩ := id hF
  clear hF
  go_wp2
  go_ret2
  exact ⟨_, rfl, HF.out, hb1⟩
set_option maxHeartbeats 2000000 in
theorem load_nil (i : Int) (w : World) : Calls Try.prog 16 #[.pointer none, .int .i64 i] w fun e w' => e = .returned (.tuple #[.int .u64 0, .iface 126 (.int .i64 2)]) ∧ w = w' := by
  go_enter Try.func16, Try.ntmps16
  go_wp2
  go_ret2
  exact ⟨rfl, rfl⟩
set_option maxHeartbeats 2000000 in
theorem store_nil (i x : Int) (w : World) : Calls Try.prog 33 #[.pointer none, .int .i64 i, .int .u64 x] w fun e w' => e = .returned (.iface 126 (.int .i64 2)) ∧ w = w' := by
  go_enter Try.func33, Try.ntmps33
  go_wp2
  go_ret
  exact ⟨rfl, rfl⟩
set_option maxHeartbeats 2000000 in
theorem swap_nil (i o x : Int) (w : World) : Calls Try.prog 51 #[.pointer none, .int .i64 i, .int .u64 o, .int .u64 x] w fun e w' => e = .returned (.tuple #[.bool false, .iface 126 (.int .i64 2)]) ∧ w = w' := by
  go_enter Try.func51, Try.ntmps51
  go_wp2
  go_ret2
  exact ⟨rfl, rfl⟩
set_option maxHeartbeats 2000000 in
theorem steps_nil (w : World) : Calls Try.prog 22 #[.pointer none] w fun e w' => e = .returned (.int .i64 0) ∧ w = w' := by
  go_enter Try.func22, Try.ntmps22
  go_wp2
  go_ret
  exact ⟨rfl, rfl⟩
set_option maxHeartbeats 2000000 in
theorem steps_is {M B n c : Nat} {A : Option Addr} {ws : Nat → Int} {st k a p q : Int} {d : Bool} {w : World} (h : MemAt M B n c A ws st k a p q d w) : Calls Try.prog 22 #[.pointer (some ⟨M, 0, none⟩)] w fun e w' => e = .returned (.int .i64 st) ∧ w = w' := by
  have c1 := h.c1
  clear h
  go_enter Try.func22, Try.ntmps22
  go_wp2
  go_ret
  exact ⟨rfl, rfl⟩
theorem run_make_rowN {P : Program} (t e : TypeId) (i : TypeInfo) (z : Value) (ht : P.underlying t = some (.slice e)) (hi : P.info? e = some i) (hz : i.zero = some z)
    (kl kc : IntKind) (n c : Nat) (hnc : n ≤ c) (hbytes : i.bytes * c ≤ 281474976710656) (h63 : c ≤ 9223372036854775807) (w : World) :
    (Instr.makeSlice t (.int kl (n : Int)) (.int kc (c : Int))).run P w = .ok (.slice (some ⟨w.heap.size, 0, none⟩) n c) (w.alloc (.cells (madeCells z.cells (c * i.size)) e)) := by
  have hb : (i.bytes : Int) * (c : Int) ≤ 281474976710656 := by
    have h : ((i.bytes * c : Nat) : Int) ≤ 281474976710656 := by omega
    rwa [Int.natCast_mul] at h
  have hr := run_make (P := P) w t e i z ht hi hz kl kc n c (by omega) (by omega) hb (by omega)
  simp only [Int.toNat_natCast] at hr
  exact hr
theorem infoU : (Try.prog.info? 48).map (fun i => (i.zero, i.size, i.bytes)) = some (some (.int .u64 0), 1, 8) := by kernel_rfl
theorem makeU (n : Nat) (hn : n ≤ 8192) (W : World) : (Instr.makeSlice 114 (.int .i64 (n : Int)) (.int .i64 (n : Int))).run Try.prog W = .ok (.slice (some ⟨W.heap.size, 0, none⟩) n n) (W.alloc (.cells (madeCells (Value.int .u64 0).cells (n * 1)) 48)) := by
  obtain ⟨i0, hi, hz0, hz1, hz2⟩ := info_parts infoU
  have h := run_make_rowN (P := Try.prog) 114 48 i0 (.int .u64 0) Try.underlying114 hi hz0 .i64 .i64 n n (Nat.le_refl _) (by rw [hz2]; omega) (by omega) W
  rw [hz1] at h
  exact h
theorem made_at (n i : Nat) (hi : i < n) : (madeCells #[Value.int .u64 0] n)[i]? = some (.int .u64 0) := by
  rw [← Array.getElem?_toList, toList_madeCells_one, List.getElem?_replicate, if_pos hi]
set_option maxHeartbeats 2000000 in
theorem new_is (n : Nat) (hn : n ≤ 8192) (w : World) : Calls Try.prog 55 #[.int .i64 (n : Int)] w fun e w' => e = .returned (.tuple #[.pointer (some ⟨w.heap.size + 1, 0, none⟩), .nilIface]) ∧ MemAt (w.heap.size + 1) w.heap.size n n (some ⟨w.heap.size, 0, none⟩) (fun _ => 0) 0 0 0 0 0 false w' ∧ Below w.heap.size w w' := by
  have hmk := makeU n hn
  have h0 : (0 : Int) ≤ (n : Int) := by omega
  have h1 : (n : Int) ≤ 8192 := by omega
  go_enter Try.func55, Try.ntmps55
  have g1 : ((w.alloc (Obj.cells (madeCells #[Value.int .u64 0] n) 48)).alloc (Obj.cells #[.slice (some ⟨w.heap.size, 0, none⟩) n n, .int .i64 0, .int .i64 0, .int .i64 0, .int .u64 0, .int .u64 0, .bool false] 118)).heap[w.heap.size]? = some (.cells (madeCells #[Value.int .u64 0] n) 48 (0, 0)) := (Below.heap_alloc _ _ _ (by simp)).trans (heap_alloc_new w _)
  have g2 : ((w.alloc (Obj.cells (madeCells #[Value.int .u64 0] n) 48)).alloc (Obj.cells #[.slice (some ⟨w.heap.size, 0, none⟩) n n, .int .i64 0, .int .i64 0, .int .i64 0, .int .u64 0, .int .u64 0, .bool false] 118)).heap[w.heap.size + 1]? = some (.cells #[.slice (some ⟨w.heap.size, 0, none⟩) n n, .int .i64 0, .int .i64 0, .int .i64 0, .int .u64 0, .int .u64 0, .bool false] 118 (0, 0)) := by
    have := heap_alloc_new (w.alloc (Obj.cells (madeCells #[Value.int .u64 0] n) 48)) (Obj.cells #[.slice (some ⟨w.heap.size, 0, none⟩) n n, .int .i64 0, .int .i64 0, .int .i64 0, .int .u64 0, .int .u64 0, .bool false] 118)
    rw [World.size_alloc] at this
    exact this
  have G1 := Lib.hid g1
  have G2 := Lib.hid g2
  clear g1 g2
  go_wp2
  go_ret2
  refine ⟨rfl, ⟨?_, ?_, ?_, ?_, ?_, ?_, ?_, fun o _ => blk_frozen G2.out o, blk_lt G2.out, fun i hi => ⟨rfl, blk_lt G1.out, by rw [cell_of_row _ _ _ _ _ _ G1.out]; exact made_at n i hi, blk_frozen G1.out i, by decide, by decide⟩, by omega, rfl, blk_lt G1.out⟩, by go_grown⟩
  all_goals (rw [cell_of_row _ _ _ _ _ _ G2.out]; rfl)
theorem new_no (n : Int) (hn : n < 0 ∨ 8192 < n) (w : World) : Calls Try.prog 55 #[.int .i64 n] w fun e w' => e = .returned (.tuple #[.pointer none, .iface 126 (.int .i64 4)]) ∧ w = w' := by
  by_cases h0 : n < 0
  · clear hn
    go_enter Try.func55, Try.ntmps55
    go_wp2
    go_ret2
    exact ⟨rfl, rfl⟩
  · have h1 : 8192 < n := by omega
    clear hn
    go_enter Try.func55, Try.ntmps55
    go_wp2
    go_ret2
    exact ⟨rfl, rfl⟩
/-- Words that are there. -/
structure WordsAt (B n : Nat) (A : Option Addr) (ws : Nat → Int) (w : World) : Prop where
  ha : A = some ⟨B, 0, none⟩
  bl : B < w.heap.size
  wd : ∀ i, i < n → w.cell? ⟨B, i, none⟩ = some (.int .u64 (ws i)) ∧ w.frozen? ⟨B, i, none⟩ = false ∧ 0 ≤ ws i ∧ ws i ≤ 18446744073709551615
theorem WordsAt.below {B n : Nat} {A : Option Addr} {ws : Nat → Int} {w w' : World} (h : WordsAt B n A ws w) (hb : Below w.heap.size w w') : WordsAt B n A ws w' :=
  ⟨h.ha, Nat.lt_of_lt_of_le h.bl hb.size, fun i hi => ⟨(hb.cell (p := ⟨B, i, none⟩) h.bl).trans (h.wd i hi).1, (hb.frozen (p := ⟨B, i, none⟩) h.bl).trans (h.wd i hi).2.1, (h.wd i hi).2.2⟩⟩
theorem MemAt.words {M B n c : Nat} {A : Option Addr} {ws : Nat → Int} {st k a p q : Int} {d : Bool} {w : World} (h : MemAt M B n c A ws st k a p q d w) : WordsAt B n A ws w := ⟨h.ha, h.bl, fun i hi => (h.wd i hi).2.2⟩
def vals (n : Nat) (ws : Nat → Int) : List Value := (List.range n).map (fun i => Value.int .u64 (ws i))
theorem vals_at (n : Nat) (ws : Nat → Int) (i : Nat) (hi : i < n) : (vals n ws)[i]? = some (.int .u64 (ws i)) := by
  unfold vals
  rw [List.getElem?_map, List.getElem?_range hi]
  rfl
theorem vals_len (n : Nat) (ws : Nat → Int) : (vals n ws).length = n := by simp [vals]
theorem vals_one (n : Nat) (ws : Nat → Int) : ∀ u ∈ vals n ws, u.oneCell' = true := by
  intro u hu
  unfold vals at hu
  obtain ⟨i, _, rfl⟩ := List.mem_map.1 hu
  rfl
theorem words_read {B n : Nat} {A : Option Addr} {ws : Nat → Int} {w : World} (h : WordsAt B n A ws w) : Reads w w.heap.size 1 A n (vals n ws) := by
  refine ⟨by rw [vals_len, Nat.mul_one], fun hn => ⟨_, h.ha, h.bl, fun j u hu => ?_⟩⟩
  have hj : j < n := by have := (List.getElem?_eq_some_iff.1 hu).1; rw [vals_len] at this; exact this
  rw [vals_at n ws j hj] at hu
  injection hu with hu
  subst hu
  have := (h.wd j hj).1
  unfold Addr.add
  by_cases h0 : j = 0
  · subst h0; simpa using this
  · simpa [h0] using this
def Cloned (n : Nat) (ws : Nat → Int) (w : World) (e : Ending) (w' : World) : Prop := ∃ (B' c' : Nat), e = .returned (.slice (some ⟨B', 0, none⟩) n c') ∧ WordsAt B' n (some ⟨B', 0, none⟩) ws w' ∧ w.heap.size ≤ B' ∧ Below w.heap.size w w'
end Go.Proofs.Ytmjkhefgpobinaa.Mm
namespace Go.Proofs.Ytmjkhefgpobinaa.Mm
open Go.ChangeShapes Go.WideShapes Go.ChangeAt Go.RowKit
/-- Words, as one thing. -/
structure MS where
  ws : Nat → Int
  st : Int
  k : Int
  a : Int
  p : Int
  q : Int
  d : Bool
def MAt (M B n c : Nat) (s : MS) (w : World) : Prop := MemAt M B n c (some ⟨B, 0, none⟩) s.ws s.st s.k s.a s.p s.q s.d w
theorem keep7 {B : Nat} {v0 v1 v2 v3 v4 v5 v6 : Value} {wx wy : World} (h : wx.cell? ⟨B, 0, none⟩ = some v0 ∧ wx.cell? ⟨B, 1, none⟩ = some v1 ∧ wx.cell? ⟨B, 2, none⟩ = some v2 ∧ wx.cell? ⟨B, 3, none⟩ = some v3 ∧ wx.cell? ⟨B, 4, none⟩ = some v4 ∧ wx.cell? ⟨B, 5, none⟩ = some v5 ∧ wx.cell? ⟨B, 6, none⟩ = some v6) (hs : B < wx.heap.size) (hb : Below wx.heap.size wx wy) : wy.cell? ⟨B, 0, none⟩ = some v0 ∧ wy.cell? ⟨B, 1, none⟩ = some v1 ∧ wy.cell? ⟨B, 2, none⟩ = some v2 ∧ wy.cell? ⟨B, 3, none⟩ = some v3 ∧ wy.cell? ⟨B, 4, none⟩ = some v4 ∧ wy.cell? ⟨B, 5, none⟩ = some v5 ∧ wy.cell? ⟨B, 6, none⟩ = some v6 := by
  have e : ∀ o, wy.cell? ⟨B, o, none⟩ = wx.cell? ⟨B, o, none⟩ := fun o => hb.cell (p := ⟨B, o, none⟩) hs
  obtain ⟨c0, c1, c2, c3, c4, c5, c6⟩ := h
  exact ⟨(e 0).trans c0, (e 1).trans c1, (e 2).trans c2, (e 3).trans c3, (e 4).trans c4, (e 5).trans c5, (e 6).trans c6⟩
/-- An operation. -/
structure OpV where
  k : Int
  a : Int
  o : Int
  x : Int
def eff (n : Nat) (s : MS) (o : OpV) : MS :=
  if 0 ≤ o.a ∧ o.a < n then
    if o.k = 1 then ⟨upd s.ws o.a.toNat (s.ws o.a.toNat), s.st + 1, 1, o.a.toNat, s.ws o.a.toNat, s.ws o.a.toNat, true⟩
    else if o.k = 2 then ⟨upd s.ws o.a.toNat o.x, s.st + 1, 2, o.a.toNat, s.ws o.a.toNat, o.x, true⟩
    else if o.k = 3 then
      if s.ws o.a.toNat = o.o then ⟨upd s.ws o.a.toNat o.x, s.st + 1, 3, o.a.toNat, s.ws o.a.toNat, o.x, true⟩
      else ⟨upd s.ws o.a.toNat (s.ws o.a.toNat), s.st + 1, 3, o.a.toNat, s.ws o.a.toNat, s.ws o.a.toNat, false⟩
    else s
  else s
def run (n : Nat) (g : Nat → OpV) (s : MS) : Nat → MS
  | 0 => s
  | k + 1 => eff n (run n g s k) (g k)
theorem eff_st (n : Nat) (s : MS) (o : OpV) : s.st ≤ (eff n s o).st ∧ (eff n s o).st ≤ s.st + 1 := by
  unfold eff
  repeat' split
  all_goals (first | omega | (simp only; omega))
theorem run_st (n : Nat) (g : Nat → OpV) (s : MS) (k : Nat) : s.st ≤ (run n g s k).st ∧ (run n g s k).st ≤ s.st + k := by
  induction k with
  | zero => exact ⟨Int.le_refl _, by simp [run]⟩
  | succ k ih =>
    have := eff_st n (run n g s k) (g k)
    show s.st ≤ (eff n (run n g s k) (g k)).st ∧ (eff n (run n g s k) (g k)).st ≤ s.st + ((k + 1 : Nat) : Int)
    omega
theorem eff_out (n : Nat) (s : MS) (o : OpV) (h : o.a < 0 ∨ (n : Int) ≤ o.a) : eff n s o = s := by unfold eff; rw [if_neg (by omega)]
theorem eff_none (n : Nat) (s : MS) (o : OpV) (h1 : o.k ≠ 1) (h2 : o.k ≠ 2) (h3 : o.k ≠ 3) : eff n s o = s := by unfold eff; rw [if_neg h1, if_neg h2, if_neg h3]; split <;> rfl
theorem eff_load (n i : Nat) (s : MS) (o x : Int) (hi : i < n) : eff n s ⟨1, i, o, x⟩ = ⟨upd s.ws i (s.ws i), s.st + 1, 1, i, s.ws i, s.ws i, true⟩ := by
  unfold eff; rw [if_pos (show 0 ≤ (i : Int) ∧ (i : Int) < (n : Int) from by omega), if_pos rfl]; rfl
theorem eff_store (n i : Nat) (s : MS) (o x : Int) (hi : i < n) : eff n s ⟨2, i, o, x⟩ = ⟨upd s.ws i x, s.st + 1, 2, i, s.ws i, x, true⟩ := by
  unfold eff; rw [if_pos (show 0 ≤ (i : Int) ∧ (i : Int) < (n : Int) from by omega), if_neg (show ¬ ((2 : Int) = 1) from by decide), if_pos rfl]; rfl
theorem eff_yes (n i : Nat) (s : MS) (o x : Int) (hi : i < n) (h : s.ws i = o) : eff n s ⟨3, i, o, x⟩ = ⟨upd s.ws i x, s.st + 1, 3, i, s.ws i, x, true⟩ := by
  unfold eff; rw [if_pos (show 0 ≤ (i : Int) ∧ (i : Int) < (n : Int) from by omega), if_neg (show ¬ ((3 : Int) = 1) from by decide), if_neg (show ¬ ((3 : Int) = 2) from by decide), if_pos (show (3 : Int) = 3 from rfl), if_pos (show s.ws ((i : Int).toNat) = o from h)]; rfl
theorem eff_no (n i : Nat) (s : MS) (o x : Int) (hi : i < n) (h : s.ws i ≠ o) : eff n s ⟨3, i, o, x⟩ = ⟨upd s.ws i (s.ws i), s.st + 1, 3, i, s.ws i, s.ws i, false⟩ := by
  unfold eff; rw [if_pos (show 0 ≤ (i : Int) ∧ (i : Int) < (n : Int) from by omega), if_neg (show ¬ ((3 : Int) = 1) from by decide), if_neg (show ¬ ((3 : Int) = 2) from by decide), if_pos (show (3 : Int) = 3 from rfl), if_neg (show ¬ s.ws ((i : Int).toNat) = o from h)]; rfl
theorem Oth.cell {M B : Nat} {w w' : World} (h : Oth M B w w') {p : Addr} (h0 : p.block < w.heap.size) (h1 : p.block ≠ M) (h2 : p.block ≠ B) : w'.cell? p = w.cell? p := World.cell?_of_block (w := w) (h.2.2.2.2 _ h0 h1 h2)
theorem Oth.frozen {M B : Nat} {w w' : World} (h : Oth M B w w') {p : Addr} (h0 : p.block < w.heap.size) (h1 : p.block ≠ M) (h2 : p.block ≠ B) : w'.frozen? p = w.frozen? p := World.frozen?_of_block (w := w) (h.2.2.2.2 _ h0 h1 h2)
theorem MAt.oth {M B n c M' B' : Nat} {s : MS} {w w' : World} (h : MAt M B n c s w) (o : Oth M' B' w w') (h1 : M ≠ M') (h2 : M ≠ B') (h3 : B ≠ M') (h4 : B ≠ B') : MAt M B n c s w' := by
  have hc : ∀ i, w'.cell? ⟨M, i, none⟩ = w.cell? ⟨M, i, none⟩ := fun i => o.cell (p := ⟨M, i, none⟩) h.ml h1 h2
  have hf : ∀ i, w'.frozen? ⟨M, i, none⟩ = w.frozen? ⟨M, i, none⟩ := fun i => o.frozen (p := ⟨M, i, none⟩) h.ml h1 h2
  have bc : ∀ i, w'.cell? ⟨B, i, none⟩ = w.cell? ⟨B, i, none⟩ := fun i => o.cell (p := ⟨B, i, none⟩) h.bl h3 h4
  have bf : ∀ i, w'.frozen? ⟨B, i, none⟩ = w.frozen? ⟨B, i, none⟩ := fun i => o.frozen (p := ⟨B, i, none⟩) h.bl h3 h4
  have hz := o.2.2.2.1
  exact ⟨(hc 0).trans h.c0, (hc 1).trans h.c1, (hc 2).trans h.c2, (hc 3).trans h.c3, (hc 4).trans h.c4, (hc 5).trans h.c5, (hc 6).trans h.c6, fun i hi => (hf i).trans (h.fz i hi), Nat.lt_of_lt_of_le h.ml hz, fun i hi => ⟨rfl, Nat.lt_of_lt_of_le h.bl hz, (bc i).trans (h.wd i hi).2.2.1, (bf i).trans (h.wd i hi).2.2.2.1, (h.wd i hi).2.2.2.2⟩, h.ne, rfl, Nat.lt_of_lt_of_le h.bl hz⟩
theorem MAt.below {M B n c : Nat} {s : MS} {w w' : World} (h : MAt M B n c s w) (hb : Below w.heap.size w w') : MAt M B n c s w' := MemAt.below h hb
theorem WordsAt.oth {B n M' B' : Nat} {A : Option Addr} {ws : Nat → Int} {w w' : World} (h : WordsAt B n A ws w) (o : Oth M' B' w w') (h3 : B ≠ M') (h4 : B ≠ B') : WordsAt B n A ws w' := by
  have bc : ∀ i, w'.cell? ⟨B, i, none⟩ = w.cell? ⟨B, i, none⟩ := fun i => o.cell (p := ⟨B, i, none⟩) h.bl h3 h4
  have bf : ∀ i, w'.frozen? ⟨B, i, none⟩ = w.frozen? ⟨B, i, none⟩ := fun i => o.frozen (p := ⟨B, i, none⟩) h.bl h3 h4
  exact ⟨h.ha, Nat.lt_of_lt_of_le h.bl o.2.2.2.1, fun i hi => ⟨(bc i).trans (h.wd i hi).1, (bf i).trans (h.wd i hi).2.1, (h.wd i hi).2.2⟩⟩
theorem add_pos (a : Addr) (i : Nat) (hi : i ≠ 0) (h : a.spot = none) : a.add i = ⟨a.block, a.off + i, none⟩ := by
  unfold Addr.add
  rw [if_neg hi]
/-- Operations that are there. -/
def OpsAt (A : Option Addr) (len : Nat) (g : Nat → OpV) (w : World) : Prop := 0 < len → ∃ ad, A = some ad ∧ ad.block < w.heap.size ∧ ∀ i, i < len →
  w.cell? (ad.add (i * 4)) = some (.int .i64 (g i).k) ∧ w.cell? (ad.add (i * 4 + 1)) = some (.int .i64 (g i).a) ∧ w.cell? (ad.add (i * 4 + 2)) = some (.int .u64 (g i).o) ∧ w.cell? (ad.add (i * 4 + 3)) = some (.int .u64 (g i).x) ∧ 0 ≤ (g i).x ∧ (g i).x ≤ 18446744073709551615
theorem new_mat (n : Nat) (hn : n ≤ 8192) (w : World) : Calls Try.prog 55 #[.int .i64 (n : Int)] w fun e w' => ∃ M B : Nat, e = .returned (.tuple #[.pointer (some ⟨M, 0, none⟩), .nilIface]) ∧ MAt M B n n ⟨fun _ => 0, 0, 0, 0, 0, 0, false⟩ w' ∧ w.heap.size ≤ M ∧ w.heap.size ≤ B ∧ Below w.heap.size w w' := by
  refine (new_is n hn w).mono ?_
  rintro e w1 ⟨rfl, hM, hb⟩
  exact ⟨w.heap.size + 1, w.heap.size, rfl, hM, by omega, Nat.le_refl _, hb⟩
theorem OpsAt.below {A : Option Addr} {len : Nat} {g : Nat → OpV} {w w' : World} (h : OpsAt A len g w) (hb : Below w.heap.size w w') : OpsAt A len g w' := fun h0 => by
  obtain ⟨ad, e, h1, h2⟩ := h h0
  have hc : ∀ i, w'.cell? (ad.add i) = w.cell? (ad.add i) := fun i => hb.cell (p := ad.add i) (by rw [block_of_add]; exact h1)
  exact ⟨ad, e, Nat.lt_of_lt_of_le h1 hb.size, fun i hi => ⟨(hc _).trans (h2 i hi).1, (hc _).trans (h2 i hi).2.1, (hc _).trans (h2 i hi).2.2.1, (hc _).trans (h2 i hi).2.2.2.1, (h2 i hi).2.2.2.2⟩⟩
end Go.Proofs.Ytmjkhefgpobinaa.Mm
namespace Go.Proofs.Ytmjkhefgpobinaa
open Go.ChangeShapes Go.WideShapes Go.ChangeAt Go.RowKit
/-- What stands where: kind, cell, gen, number. -/
def pk (A : Nat) (i : Nat) : Nat := if i < 2 * A then 1 + i % 2 else 3
def pc (A G S : Nat) (i : Nat) : Nat := if i < 2 * A then i / 2 else (i - 2 * A) / S / G
def pg (A G S : Nat) (i : Nat) : Nat := if i < 2 * A then 0 else (i - 2 * A) / S % G + 1
def pn (A S : Nat) (i : Nat) : Nat := if i < 2 * A then 0 else (i - 2 * A) % S
def pls (A G S : Nat) : Nat → List Value
  | 0 => []
  | k + 1 => pls A G S k ++ [.int .i64 (pk A k), .int .i64 (pc A G S k), .int .i64 (pg A G S k), .int .i64 (pn A S k)]
theorem pls_len (A G S k : Nat) : (pls A G S k).length = k * 4 := by
  induction k with
  | zero => rfl
  | succ k ih => simp [pls, ih]; omega
theorem pls_at (A G S T : Nat) (i : Nat) (hi : i < T) : (pls A G S T)[i * 4]? = some (.int .i64 (pk A i)) ∧ (pls A G S T)[i * 4 + 1]? = some (.int .i64 (pc A G S i)) ∧ (pls A G S T)[i * 4 + 2]? = some (.int .i64 (pg A G S i)) ∧ (pls A G S T)[i * 4 + 3]? = some (.int .i64 (pn A S i)) := by
  induction T with
  | zero => omega
  | succ T ih =>
    have hl := pls_len A G S T
    by_cases h : i < T
    · obtain ⟨h0, h1, h2, h3⟩ := ih h
      simp only [pls]
      refine ⟨?_, ?_, ?_, ?_⟩ <;> rw [List.getElem?_append_left (by omega)] <;> assumption
    · obtain rfl : i = T := by omega
      simp only [pls]
      refine ⟨?_, ?_, ?_, ?_⟩ <;> rw [List.getElem?_append_right (by omega), hl]
      · simp
      · rw [show i * 4 + 1 - i * 4 = 1 by omega]; rfl
      · rw [show i * 4 + 2 - i * 4 = 2 by omega]; rfl
      · rw [show i * 4 + 3 - i * 4 = 3 by omega]; rfl
theorem pls_one (A G S T : Nat) : ∀ u ∈ pls A G S T, u.oneCell' = true := by
  induction T with
  | zero => intro u hu; cases hu
  | succ T ih =>
    intro u hu
    simp only [pls, List.mem_append, List.mem_cons, List.not_mem_nil, or_false] at hu
    rcases hu with h | h | h | h | h
    · exact ih u h
    all_goals (subst h; rfl)
theorem place_even (A G S i : Nat) (h : i < A) : pk A (2 * i) = 1 ∧ pc A G S (2 * i) = i ∧ pg A G S (2 * i) = 0 ∧ pn A S (2 * i) = 0 := by
  unfold pk pc pg pn
  rw [if_pos (by omega), if_pos (by omega), if_pos (by omega), if_pos (by omega)]
  omega
theorem place_odd (A G S i : Nat) (h : i < A) : pk A (2 * i + 1) = 2 ∧ pc A G S (2 * i + 1) = i ∧ pg A G S (2 * i + 1) = 0 ∧ pn A S (2 * i + 1) = 0 := by
  unfold pk pc pg pn
  rw [if_pos (by omega), if_pos (by omega), if_pos (by omega), if_pos (by omega)]
  omega
theorem pls_two (A G S i : Nat) (h : i < A) : pls A G S (2 * (i + 1)) = pls A G S (2 * i) ++ [.int .i64 1, .int .i64 i, .int .i64 0, .int .i64 0, .int .i64 2, .int .i64 i, .int .i64 0, .int .i64 0] := by
  obtain ⟨e0, e1, e2, e3⟩ := place_even A G S i h
  obtain ⟨o0, o1, o2, o3⟩ := place_odd A G S i h
  show pls A G S (2 * i + 1 + 1) = _
  simp only [pls, e0, e1, e2, e3, o0, o1, o2, o3, List.append_assoc]
  rfl
/-- The number of a record's place. -/
def ix (A G S i g n : Nat) : Nat := 2 * A + (i * G + g) * S + n
theorem place_ix (A G S i g n : Nat) (hg : g < G) (hn : n < S) : pk A (ix A G S i g n) = 3 ∧ pc A G S (ix A G S i g n) = i ∧ pg A G S (ix A G S i g n) = g + 1 ∧ pn A S (ix A G S i g n) = n := by
  unfold pk pc pg pn ix
  have hS : 0 < S := by omega
  have hG : 0 < G := by omega
  have e : 2 * A + (i * G + g) * S + n - 2 * A = (i * G + g) * S + n := by omega
  have e1 : ((i * G + g) * S + n) / S = i * G + g := by rw [Nat.add_comm, Nat.add_mul_div_right _ _ hS, Nat.div_eq_of_lt hn, Nat.zero_add]
  have e2 : ((i * G + g) * S + n) % S = n := by rw [Nat.add_comm, Nat.add_mul_mod_self_right, Nat.mod_eq_of_lt hn]
  have e3 : (i * G + g) / G = i := by rw [Nat.add_comm, Nat.add_mul_div_right _ _ hG, Nat.div_eq_of_lt hg, Nat.zero_add]
  have e4 : (i * G + g) % G = g := by rw [Nat.add_comm, Nat.add_mul_mod_self_right, Nat.mod_eq_of_lt hg]
  rw [if_neg (by omega), if_neg (by omega), if_neg (by omega), if_neg (by omega), e, e1, e2, e3, e4]
  exact ⟨rfl, rfl, rfl, rfl⟩
theorem pls_ix (A G S i g n : Nat) (hg : g < G) (hn : n < S) : pls A G S (ix A G S i g n + 1) = pls A G S (ix A G S i g n) ++ [.int .i64 3, .int .i64 i, .int .i64 ((g : Int) + 1), .int .i64 n] := by
  obtain ⟨e0, e1, e2, e3⟩ := place_ix A G S i g n hg hn
  simp only [pls, e0, e1, e2, e3]
  rfl
/-- Where a place is. -/
theorem ix_back (A G S i : Nat) (hG : 0 < G) (hS : 0 < S) (h : ¬ i < 2 * A) : ix A G S (pc A G S i) (pg A G S i - 1) (pn A S i) = i ∧ pg A G S i - 1 < G ∧ pn A S i < S ∧ 1 ≤ pg A G S i := by
  unfold ix pc pg pn
  rw [if_neg h, if_neg h, if_neg h]
  have h1 := Nat.div_add_mod ((i - 2 * A) / S) G
  have h2 := Nat.div_add_mod (i - 2 * A) S
  refine ⟨?_, by rw [Nat.add_sub_cancel]; exact Nat.mod_lt _ hG, Nat.mod_lt _ hS, by omega⟩
  rw [Nat.add_sub_cancel, Nat.mul_comm _ G, h1, Nat.mul_comm _ S]
  omega
theorem pc_lt (A G S i : Nat) (hG : 0 < G) (hS : 0 < S) (h : i < 2 * A + A * (G * S)) : pc A G S i < A := by
  unfold pc
  split
  · omega
  · rw [Nat.div_div_eq_div_mul, Nat.mul_comm S G]
    have e : A * (G * S) = G * S * A := Nat.mul_comm _ _
    exact Nat.div_lt_of_lt_mul (by omega)
theorem ix_lt (A G S i g n : Nat) (hi : i < A) (hg : g < G) (hn : n < S) : ix A G S i g n < 2 * A + A * (G * S) := by
  unfold ix
  have h1 : (i * G + g + 1) * S ≤ A * G * S := Nat.mul_le_mul_right _ (by
    have : (i + 1) * G ≤ A * G := Nat.mul_le_mul_right _ hi
    rw [Nat.add_mul, Nat.one_mul] at this
    omega)
  rw [Nat.add_mul, Nat.one_mul] at h1
  rw [← Nat.mul_assoc]
  omega
end Go.Proofs.Ytmjkhefgpobinaa
namespace Go.Proofs.Ytmjkhefgpobinaa
open Go.ChangeShapes Go.WideShapes Go.ChangeAt Go.RowKit

/-- Rules, and no error. -/
def RNewOk (w : World) (p c n b r f g : Int) (e : Ending) (w' : World) : Prop := e = .returned (.tuple #[.agg #[.int .i64 p, .int .i64 c, .int .i64 n, .int .i64 b, .int .i64 r, .int .i64 f, .int .i64 g], .nilIface]) ∧ Below w.heap.size w w'
/-- No rules, and an error. -/
def RNewBad (w : World) (e : Ending) (w' : World) : Prop := ∃ T v, e = .returned (.tuple #[.agg #[.int .i64 0, .int .i64 0, .int .i64 0, .int .i64 0, .int .i64 0, .int .i64 0, .int .i64 0], .iface T v]) ∧ Below w.heap.size w w'
set_option maxRecDepth 100000 in
set_option maxHeartbeats 4000000 in
theorem rnew_ok (p c n b r f g : Int) (w : World) (hp : 1 ≤ p ∧ p ≤ 6) (hc : 1 ≤ c ∧ c ≤ 4) (hn : 1 ≤ n ∧ n ≤ 3) (hb : 1 ≤ b ∧ b ≤ 4) (hr : 0 ≤ r ∧ r ≤ 4) (hf : 1 ≤ f ∧ f ≤ 4) (hg : 1 ≤ g ∧ g ≤ 15) : Calls Try.prog 25 #[.agg #[.int .i64 p, .int .i64 c, .int .i64 n, .int .i64 b, .int .i64 r, .int .i64 f, .int .i64 g]] w (RNewOk w p c n b r f g) := by
  obtain ⟨p1, p2⟩ := hp
  obtain ⟨c1, c2⟩ := hc
  obtain ⟨n1, n2⟩ := hn
  obtain ⟨b1, b2⟩ := hb
  obtain ⟨r1, r2⟩ := hr
  obtain ⟨f1, f2⟩ := hf
  obtain ⟨g1, g2⟩ := hg
  go_enter Try.func25, Try.ntmps25
  go_wp2_with fail
  go_rounds 8
  refine bodyPost_ret (by simp [results, Try.results25, go_sem]; try rfl) rfl ⟨rfl, ?_⟩
  go_grown
set_option maxRecDepth 100000 in
set_option maxHeartbeats 8000000 in
theorem rnew_bad (p c n b r f g : Int) (w : World) (h : ¬ ((1 ≤ p ∧ p ≤ 6) ∧ (1 ≤ c ∧ c ≤ 4) ∧ (1 ≤ n ∧ n ≤ 3) ∧ (1 ≤ b ∧ b ≤ 4) ∧ (0 ≤ r ∧ r ≤ 4) ∧ (1 ≤ f ∧ f ≤ 4) ∧ (1 ≤ g ∧ g ≤ 15))) : Calls Try.prog 25 #[.agg #[.int .i64 p, .int .i64 c, .int .i64 n, .int .i64 b, .int .i64 r, .int .i64 f, .int .i64 g]] w (RNewBad w) := by
  have H := Lib.hid h
  clear h
  go_enter Try.func25, Try.ntmps25
  go_wp2_with fail
  go_rounds 8
  all_goals first
    | (exfalso; have h := H.out; omega)
    | (refine bodyPost_ret (by simp [results, Try.results25, go_sem]; first | rfl | exact ⟨rfl, rfl⟩) rfl ⟨_, _, rfl, ?_⟩; go_grown)
end Go.Proofs.Ytmjkhefgpobinaa

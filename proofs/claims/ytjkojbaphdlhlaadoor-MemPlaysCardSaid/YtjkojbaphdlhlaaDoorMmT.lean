/-
  Shared words by their contracts, and what a step leaves.
-/
import Derived.Test.YtjkojbaphdlhlaaDoorRows
import Derived.WalkKit
import Derived.ProofKit
import Derived.OpenShut
import Derived.ShutString
import Derived.Below
import Derived.Outline
import Derived.WalkLawsBesides
import Derived.WalkSpells
import Derived.Handy
import Derived.Deep.QuietTactic
import Derived.BigQuiet
import Derived.RegionTactic
import Derived.ChangeAlike
import Derived.Lib.Hide
import Derived.Laws.Rows
import Derived.Laws.Tables
import Derived.Laws.CopyOwn
import Derived.Laws.MakeOwn
import Derived.Laws.Entries
import Derived.Laws.OwnMore
import Derived.Deep.WholeRow
import Derived.Deep.LoopGhost
import Derived.Deep.AppendLies
import Derived.Deep.Draws
import Derived.Maps.AppendAt
import Derived.OwnWalk
import Derived.Deep.RegionHeld3
import Derived.Deep.Cut
import Derived.Deep.CutRange
import Derived.Deep.DeepCutAuto
import Derived.Deep.CutBlock
import Derived.Lib.SliceRun
import Derived.IntWalk
import Derived.Test.YtjkojbaphdlhlaaDoorKit
import Derived.Test.YtjkojbaphdlhlaaDoorApp
import Derived.Stop.Asserts
import Derived.RowKitTokens
import Derived.LaidEql
namespace Go.Proofs.YtjkojbaphdlhlaaDoor.Mm
set_option linter.unusedVariables false
set_option linter.unusedSimpArgs false
open Go.ChangeShapes Go.WideShapes Go.ChangeAt Go.RowKit
/-- A fault at a place, round a code. -/
def AtF (w w' : World) (c i : Int) (v : Value) : Prop := ∃ pb : Nat, v = .iface 88 (.pointer (some ⟨pb, 0, none⟩)) ∧ w.heap.size ≤ pb ∧ pb < w'.heap.size ∧ w'.cell? ⟨pb, 0, none⟩ = some (.int .i64 i) ∧ w'.cell? ⟨pb, 1, none⟩ = some (.iface 86 (.int .i64 c))
theorem AtF.below {w w1 w2 : World} {c i : Int} {v : Value} (h : AtF w w1 c i v) (hb : Below w1.heap.size w1 w2) : AtF w w2 c i v := by
  obtain ⟨pb, e, h1, h2, c0, c1⟩ := h
  exact ⟨pb, e, h1, Nat.lt_of_lt_of_le h2 hb.size, (hb.cell (p := ⟨pb, 0, none⟩) h2).trans c0, (hb.cell (p := ⟨pb, 1, none⟩) h2).trans c1⟩
theorem AtF.setRow {w w1 : World} {c i : Int} {v : Value} {g : Nat} (h : AtF w w1 c i v) (hg : g < w.heap.size) (cs : Array Value) : AtF w (w1.setRow g cs) c i v := by
  obtain ⟨pb, e, h1, h2, c0, c1⟩ := h
  refine ⟨pb, e, h1, by simpa using h2, ?_, ?_⟩
  · rw [cell_setRow_other _ _ _ _ (by show pb ≠ g; omega)]; exact c0
  · rw [cell_setRow_other _ _ _ _ (by show pb ≠ g; omega)]; exact c1
theorem AtF.low {w0 w w1 : World} {c i : Int} {v : Value} (h : AtF w w1 c i v) (hs : w0.heap.size ≤ w.heap.size) : AtF w0 w1 c i v := by
  obtain ⟨pb, e, h1, h2, c0, c1⟩ := h
  exact ⟨pb, e, Nat.le_trans hs h1, h2, c0, c1⟩
def AtSays (c k : Int) (w : World) (e : Ending) (w' : World) : Prop := ∃ v, e = .returned v ∧ AtF w w' c k v ∧ Below w.heap.size w w'
set_option maxHeartbeats 1000000 in
theorem at_code (k c : Int) (w : World) : Calls Tryd.prog 47 #[.int .i64 k, .iface 86 (.int .i64 c)] w (AtSays c k w) := by
  go_enter Tryd.func47, Tryd.ntmps47
  go_wp2
  go_ret
  exact ⟨_, rfl, ⟨w.heap.size, rfl, Nat.le_refl _, by simp, by simp [go_sem], by simp [go_sem]⟩, by go_grown⟩
theorem frozen_setCell (w : World) (a b : Addr) (v : Value) : (w.setCell a v).frozen? b = w.frozen? b := by simp [go_sem]
theorem addr_ne {a b i j : Nat} (h : a ≠ b ∨ i ≠ j) : (⟨a, i, none⟩ : Addr) ≠ ⟨b, j, none⟩ := by
  intro e; injection e with e1 e2; rcases h with h | h
  · exact h e1
  · exact h e2
theorem cell_other (w : World) (a b i j : Nat) (v : Value) (h : a ≠ b ∨ i ≠ j) : (w.setCell ⟨a, i, none⟩ v).cell? ⟨b, j, none⟩ = w.cell? ⟨b, j, none⟩ := World.cell?_setCell_other _ _ _ _ (addr_ne h)
theorem cell_same (w : World) (a i : Nat) (v u : Value) (h : w.cell? ⟨a, i, none⟩ = some u) : (w.setCell ⟨a, i, none⟩ v).cell? ⟨a, i, none⟩ = some v := World.cell?_setCell_same _ _ _ h
theorem blk_frozen {w : World} {g : Nat} {t : TypeId} {cs : Array Value} (h : w.heap[g]? = some (.cells cs t (0, 0))) (i : Nat) : w.frozen? ⟨g, i, none⟩ = false := by
  simp [World.frozen?, h]
theorem blk_lt {w : World} {g : Nat} {o : Obj} (h : w.heap[g]? = some o) : g < w.heap.size := by
  rcases Nat.lt_or_ge g w.heap.size with hlt | hge
  · exact hlt
  · rw [Array.getElem?_eq_none hge] at h; cases h
/-- Shared words: the struct's block M, the words' block B. -/
structure MemAt (M B n c : Nat) (A : Option Addr) (ws : Nat → Int) (st k a p q : Int) (d : Bool) (w : World) : Prop where
  c0 : w.cell? ⟨M, 0, none⟩ = some (.slice A n c)
  c1 : w.cell? ⟨M, 1, none⟩ = some (.int .i64 st)
  c2 : w.cell? ⟨M, 2, none⟩ = some (.int .i64 k)
  c3 : w.cell? ⟨M, 3, none⟩ = some (.int .i64 a)
  c4 : w.cell? ⟨M, 4, none⟩ = some (.int .u64 p)
  c5 : w.cell? ⟨M, 5, none⟩ = some (.int .u64 q)
  c6 : w.cell? ⟨M, 6, none⟩ = some (.bool d)
  fz : ∀ o, o < 7 → w.frozen? ⟨M, o, none⟩ = false
  ml : M < w.heap.size
  wd : ∀ i, i < n → A = some ⟨B, 0, none⟩ ∧ B < w.heap.size ∧ w.cell? ⟨B, i, none⟩ = some (.int .u64 (ws i)) ∧ w.frozen? ⟨B, i, none⟩ = false ∧ 0 ≤ ws i ∧ ws i ≤ 18446744073709551615
  ne : M ≠ B
  ha : A = some ⟨B, 0, none⟩
  bl : B < w.heap.size
def upd (ws : Nat → Int) (i : Nat) (x : Int) : Nat → Int := fun j => if j = i then x else ws j
theorem MemAt.below {M B n c : Nat} {A : Option Addr} {ws : Nat → Int} {st k a p q : Int} {d : Bool} {w w' : World} (h : MemAt M B n c A ws st k a p q d w) (hb : Below w.heap.size w w') : MemAt M B n c A ws st k a p q d w' := by
  have hc : ∀ o, w'.cell? ⟨M, o, none⟩ = w.cell? ⟨M, o, none⟩ := fun o => hb.cell (p := ⟨M, o, none⟩) h.ml
  refine ⟨(hc 0).trans h.c0, (hc 1).trans h.c1, (hc 2).trans h.c2, (hc 3).trans h.c3, (hc 4).trans h.c4, (hc 5).trans h.c5, (hc 6).trans h.c6, fun o ho => (hb.frozen (p := ⟨M, o, none⟩) h.ml).trans (h.fz o ho), Nat.lt_of_lt_of_le h.ml hb.size, fun i hi => ?_, h.ne, h.ha, Nat.lt_of_lt_of_le h.bl hb.size⟩
  obtain ⟨h1, h2, h3, h4, h5⟩ := h.wd i hi
  exact ⟨h1, Nat.lt_of_lt_of_le h2 hb.size, (hb.cell (p := ⟨B, i, none⟩) h2).trans h3, (hb.frozen (p := ⟨B, i, none⟩) h2).trans h4, h5⟩
theorem frz (w : World) (a b : Addr) (v : Value) : (w.setCell a v).frozen? b = w.frozen? b := by simp [go_sem]
set_option maxHeartbeats 2000000 in
theorem refused_nil (at_ : Int) (w : World) : Calls Tryd.prog 54 #[.pointer none, .int .i64 at_] w fun e w' => e = .returned (.iface 86 (.int .i64 2)) ∧ w = w' := by
  go_enter Tryd.func54, Tryd.ntmps54
  go_wp2
  go_ret
  exact ⟨rfl, rfl⟩
set_option maxHeartbeats 2000000 in
theorem refused_in {M B n c : Nat} {A : Option Addr} {ws : Nat → Int} {st k a p q : Int} {d : Bool} {w : World} (h : MemAt M B n c A ws st k a p q d w) (i : Nat) (hi : i < n) : Calls Tryd.prog 54 #[.pointer (some ⟨M, 0, none⟩), .int .i64 (i : Int)] w fun e w' => e = .returned .nilIface ∧ w = w' := by
  have c0 := h.c0
  have h1 : (i : Int) < (n : Int) := by omega
  go_enter Tryd.func54, Tryd.ntmps54
  go_wp2
  go_ret
  exact ⟨rfl, rfl⟩
set_option maxHeartbeats 2000000 in
theorem refused_out {M B n c : Nat} {A : Option Addr} {ws : Nat → Int} {st k a p q : Int} {d : Bool} {w : World} (h : MemAt M B n c A ws st k a p q d w) (i : Int) (hi : i < 0 ∨ (n : Int) ≤ i) : Calls Tryd.prog 54 #[.pointer (some ⟨M, 0, none⟩), .int .i64 i] w (AtSays 5 i w) := by
  have c0 := h.c0
  by_cases h0 : i < 0
  · clear hi
    go_enter Tryd.func54, Tryd.ntmps54
    go_wp2_with fail
    refine (at_code _ _ _).mono ?_
    rintro e w1 ⟨v, rfl, hF, hb1⟩
    have HF := Lib.hid hF
    clear hF
    go_wp2
    go_ret
    exact ⟨_, rfl, HF.out, hb1⟩
  · have h1 : (n : Int) ≤ i := by omega
    clear hi
    go_enter Tryd.func54, Tryd.ntmps54
    go_wp2_with fail
    refine (at_code _ _ _).mono ?_
    rintro e w1 ⟨v, rfl, hF, hb1⟩
    have HF := Lib.hid hF
    clear hF
    go_wp2
    go_ret
    exact ⟨_, rfl, HF.out, hb1⟩
/-- All but two blocks stays. -/
def Oth (M B : Nat) (w w' : World) : Prop := w'.os = w.os ∧ w'.tape = w.tape ∧ w'.output = w.output ∧ w.heap.size ≤ w'.heap.size ∧ ∀ g, g < w.heap.size → g ≠ M → g ≠ B → w'.heap[g]? = w.heap[g]?
theorem Oth.below {M B b : Nat} {w0 w w' : World} (h : Oth M B w w') (hm : b ≤ M) (hb : b ≤ B) (hs : b ≤ w.heap.size) (h0 : Below b w0 w) : Below b w0 w' :=
  ⟨h.1.trans h0.os, h.2.1.trans h0.tape, h.2.2.1.trans h0.output, Nat.le_trans h0.size h.2.2.2.1, fun g hg => by
    exact (h.2.2.2.2 g (by omega) (by omega) (by omega)).trans (h0.block g hg)⟩
theorem Oth.trans {M B : Nat} {w w1 w2 : World} (h : Oth M B w w1) (g : Oth M B w1 w2) : Oth M B w w2 :=
  ⟨g.1.trans h.1, g.2.1.trans h.2.1, g.2.2.1.trans h.2.2.1, Nat.le_trans h.2.2.2.1 g.2.2.2.1, fun x hx h1 h2 => (g.2.2.2.2 x (Nat.lt_of_lt_of_le hx h.2.2.2.1) h1 h2).trans (h.2.2.2.2 x hx h1 h2)⟩
theorem Oth.of {M B : Nat} {w w' : World} (h : Below w.heap.size w w') : Oth M B w w' := ⟨h.os, h.tape, h.output, h.size, fun g hg _ _ => h.block g hg⟩
theorem Oth.refl (M B : Nat) (w : World) : Oth M B w w := ⟨rfl, rfl, rfl, Nat.le_refl _, fun _ _ _ _ => rfl⟩
theorem Oth.set {M B : Nat} {w w1 : World} (h : Oth M B w w1) (g i : Nat) (v : Value) (hg : g = M ∨ g = B) : Oth M B w (w1.setCell ⟨g, i, none⟩ v) :=
  ⟨h.1, h.2.1, h.2.2.1, by rw [World.size_setCell]; exact h.2.2.2.1, fun x hx h1 h2 => by
    rw [Below.heap_setCell _ _ _ _ (show x ≠ g from by rcases hg with rfl | rfl <;> assumption)]; exact h.2.2.2.2 x hx h1 h2⟩
/-- A step: its words, and what else there is. -/
def Stepped (M B n c : Nat) (A : Option Addr) (ws : Nat → Int) (st k a p q : Int) (d : Bool) (v : Value) (w : World) (e : Ending) (w' : World) : Prop :=
  e = .returned v ∧ MemAt M B n c A ws st k a p q d w' ∧ w'.heap.size = w.heap.size ∧ (∀ b w0, b ≤ M → b ≤ B → Below b w0 w → Below b w0 w') ∧ Oth M B w w'
set_option maxHeartbeats 4000000 in
theorem step_is {M B n c : Nat} {A : Option Addr} {ws : Nat → Int} {st k a p q : Int} {d : Bool} {w : World} (h : MemAt M B n c A ws st k a p q d w) (kind : Int) (i : Nat) (hi : i < n) (x : Int) (dn : Bool) (hx : 0 ≤ x ∧ x ≤ 18446744073709551615) (hs : 0 ≤ st ∧ st ≤ 1000000) :
    Calls Tryd.prog 55 #[.pointer (some ⟨M, 0, none⟩), .int .i64 kind, .int .i64 (i : Int), .int .u64 x, .bool dn] w (Stepped M B n c A (upd ws i x) (st + 1) kind i (ws i) x dn (.tuple #[]) w) := by
  obtain ⟨rfl, hB, hw, hf, hwb⟩ := h.wd i hi
  have H := Lib.hid h
  have c0 := h.c0
  have c1 := h.c1
  have c2 := h.c2
  have c3 := h.c3
  have c4 := h.c4
  have c5 := h.c5
  have c6 := h.c6
  have f0 := h.fz 0 (by decide)
  have f1 := h.fz 1 (by decide)
  have f2 := h.fz 2 (by decide)
  have f3 := h.fz 3 (by decide)
  have f4 := h.fz 4 (by decide)
  have f5 := h.fz 5 (by decide)
  have f6 := h.fz 6 (by decide)
  have hne := h.ne
  have hi0 : (0 : Int) ≤ (i : Int) := by omega
  have hi1 : (i : Int) < (n : Int) := by omega
  have hs1 := hs.1
  have hs2 := hs.2
  clear h hwb hs
  go_enter Tryd.func55, Tryd.ntmps55
  go_wp2
  have hne2 : B ≠ M := fun e => hne e.symm
  go_end0
  have hN : ∀ i j, (⟨M, i, none⟩ : Addr) ≠ ⟨B, j, none⟩ := fun i j => addr_ne (.inl hne)
  have hN2 : ∀ i j, (⟨B, i, none⟩ : Addr) ≠ ⟨M, j, none⟩ := fun i j => addr_ne (.inl hne2)
  have e9 : ∀ (w : World) (b o j : Nat) (v : Value), b ≠ B → (w.setCell ⟨B, j, none⟩ v).cell? ⟨b, o, none⟩ = w.cell? ⟨b, o, none⟩ := fun w b o j v h => cell_other w B b j o v (.inl (Ne.symm h))
  have e8 : ∀ (w : World) (o j : Nat) (v : Value), (w.setCell ⟨M, j, none⟩ v).cell? ⟨B, o, none⟩ = w.cell? ⟨B, o, none⟩ := fun w o j v => cell_other w M B j o v (.inl hne)
  refine ⟨rfl, ⟨?_, ?_, ?_, ?_, ?_, ?_, ?_, fun o ho => ?_, ?_, fun j hj => ?_, hne, H.out.ha, by simp only [World.size_setCell]; exact H.out.bl⟩, ?_, fun b w0 h1 h2 h3 => ?_, ?_⟩
  · rw [cell_other _ _ _ _ _ _ (.inr (by decide)), e9 _ _ _ _ _ hne, cell_other _ _ _ _ _ _ (.inr (by decide)), cell_other _ _ _ _ _ _ (.inr (by decide)), cell_other _ _ _ _ _ _ (.inr (by decide)), cell_other _ _ _ _ _ _ (.inr (by decide)), cell_other _ _ _ _ _ _ (.inr (by decide))]; exact c0
  · refine cell_same _ _ _ _ (.int .i64 st) ?_
    rw [e9 _ _ _ _ _ hne, cell_other _ _ _ _ _ _ (.inr (by decide)), cell_other _ _ _ _ _ _ (.inr (by decide)), cell_other _ _ _ _ _ _ (.inr (by decide)), cell_other _ _ _ _ _ _ (.inr (by decide)), cell_other _ _ _ _ _ _ (.inr (by decide))]; exact c1
  · rw [cell_other _ _ _ _ _ _ (.inr (by decide)), e9 _ _ _ _ _ hne, cell_other _ _ _ _ _ _ (.inr (by decide)), cell_other _ _ _ _ _ _ (.inr (by decide)), cell_other _ _ _ _ _ _ (.inr (by decide)), cell_other _ _ _ _ _ _ (.inr (by decide))]; exact cell_same _ _ _ _ _ c2
  · rw [cell_other _ _ _ _ _ _ (.inr (by decide)), e9 _ _ _ _ _ hne, cell_other _ _ _ _ _ _ (.inr (by decide)), cell_other _ _ _ _ _ _ (.inr (by decide)), cell_other _ _ _ _ _ _ (.inr (by decide))]
    refine cell_same _ _ _ _ (.int .i64 a) ?_
    rw [cell_other _ _ _ _ _ _ (.inr (by decide))]; exact c3
  · rw [cell_other _ _ _ _ _ _ (.inr (by decide)), e9 _ _ _ _ _ hne, cell_other _ _ _ _ _ _ (.inr (by decide)), cell_other _ _ _ _ _ _ (.inr (by decide))]
    refine cell_same _ _ _ _ (.int .u64 p) ?_
    rw [cell_other _ _ _ _ _ _ (.inr (by decide)), cell_other _ _ _ _ _ _ (.inr (by decide))]; exact c4
  · rw [cell_other _ _ _ _ _ _ (.inr (by decide)), e9 _ _ _ _ _ hne, cell_other _ _ _ _ _ _ (.inr (by decide))]
    refine cell_same _ _ _ _ (.int .u64 q) ?_
    rw [cell_other _ _ _ _ _ _ (.inr (by decide)), cell_other _ _ _ _ _ _ (.inr (by decide)), cell_other _ _ _ _ _ _ (.inr (by decide))]; exact c5
  · rw [cell_other _ _ _ _ _ _ (.inr (by decide)), e9 _ _ _ _ _ hne]
    refine cell_same _ _ _ _ (.bool d) ?_
    rw [cell_other _ _ _ _ _ _ (.inr (by decide)), cell_other _ _ _ _ _ _ (.inr (by decide)), cell_other _ _ _ _ _ _ (.inr (by decide)), cell_other _ _ _ _ _ _ (.inr (by decide))]; exact c6
  · simp only [frozen_setCell]; exact H.out.fz o ho
  · simp only [World.size_setCell]; exact H.out.ml
  · obtain ⟨g1, g2, g3, g4, g5⟩ := H.out.wd j hj
    refine ⟨g1, by simp only [World.size_setCell]; exact g2, ?_, by simp only [frozen_setCell]; exact g4, ?_⟩
    · rw [e8]
      by_cases hji : j = i
      · subst hji
        rw [show upd ws j x j = x from if_pos rfl]
        refine cell_same _ _ _ _ (.int .u64 (ws j)) ?_
        rw [e8, e8, e8, e8, e8]; exact g3
      · rw [show upd ws i x j = ws j from if_neg hji, cell_other _ _ _ _ _ _ (.inr (fun e => hji e.symm)), e8, e8, e8, e8, e8]; exact g3
    · unfold upd
      by_cases hji : j = i
      · rw [if_pos hji]; exact hx
      · rw [if_neg hji]; exact g5
  · simp only [World.size_setCell]
  · exact ((((((h3.setCell h1 _).setCell h1 _).setCell h1 _).setCell h1 _).setCell h1 _).setCell h2 _).setCell h1 _
  · exact (((((((Oth.refl M B w).set M _ _ (.inl rfl)).set M _ _ (.inl rfl)).set M _ _ (.inl rfl)).set M _ _ (.inl rfl)).set M _ _ (.inl rfl)).set B _ _ (.inr rfl)).set M _ _ (.inl rfl)
set_option maxHeartbeats 2000000 in
theorem load_in {M B n c : Nat} {A : Option Addr} {ws : Nat → Int} {st k a p q : Int} {d : Bool} {w : World} (h : MemAt M B n c A ws st k a p q d w) (i : Nat) (hi : i < n) (hs : 0 ≤ st ∧ st ≤ 1000000) :
    Calls Tryd.prog 23 #[.pointer (some ⟨M, 0, none⟩), .int .i64 (i : Int)] w (Stepped M B n c A (upd ws i (ws i)) (st + 1) 1 i (ws i) (ws i) true (.tuple #[.int .u64 (ws i), .nilIface]) w) := by
  obtain ⟨rfl, hB, hw, hf, hwb⟩ := h.wd i hi
  have H := Lib.hid h
  have c0 := h.c0
  have HS := Lib.hid hs
  have HWB := Lib.hid hwb
  have hi0 : (0 : Int) ≤ (i : Int) := by omega
  have hi1 : (i : Int) < (n : Int) := by omega
  clear h hwb hs
  go_enter Tryd.func23, Tryd.ntmps23
  go_wp2_with fail
  refine (refused_in H.out i hi).mono ?_
  rintro e w' ⟨rfl, rfl⟩
  go_wp2_with fail
  refine (step_is H.out 1 i hi (ws i) true HWB.out HS.out).mono ?_
  rintro e w1 ⟨rfl, hM, hz, hK⟩
  have HM := Lib.hid hM
  have HK := Lib.hid hK
  clear hM hK
  go_wp2
  go_ret2
  exact ⟨rfl, HM.out, hz, HK.out⟩
set_option maxHeartbeats 2000000 in
theorem store_in {M B n c : Nat} {A : Option Addr} {ws : Nat → Int} {st k a p q : Int} {d : Bool} {w : World} (h : MemAt M B n c A ws st k a p q d w) (i : Nat) (hi : i < n) (x : Int) (hx : 0 ≤ x ∧ x ≤ 18446744073709551615) (hs : 0 ≤ st ∧ st ≤ 1000000) :
    Calls Tryd.prog 24 #[.pointer (some ⟨M, 0, none⟩), .int .i64 (i : Int), .int .u64 x] w (Stepped M B n c A (upd ws i x) (st + 1) 2 i (ws i) x true (.nilIface) w) := by
  obtain ⟨rfl, hB, hw, hf, hwb⟩ := h.wd i hi
  have H := Lib.hid h
  have c0 := h.c0
  have HS := Lib.hid hs
  have HWB := Lib.hid hwb
  have hi0 : (0 : Int) ≤ (i : Int) := by omega
  have hi1 : (i : Int) < (n : Int) := by omega
  have HX := Lib.hid hx
  clear hx
  clear h hwb hs
  go_enter Tryd.func24, Tryd.ntmps24
  go_wp2_with fail
  refine (refused_in H.out i hi).mono ?_
  rintro e w' ⟨rfl, rfl⟩
  go_wp2_with fail
  refine (step_is H.out 2 i hi x true HX.out HS.out).mono ?_
  rintro e w1 ⟨rfl, hM, hz, hK⟩
  have HM := Lib.hid hM
  have HK := Lib.hid hK
  clear hM hK
  go_wp2
  go_ret
  exact ⟨rfl, HM.out, hz, HK.out⟩
set_option maxHeartbeats 2000000 in
theorem swap_yes {M B n c : Nat} {A : Option Addr} {ws : Nat → Int} {st k a p q : Int} {d : Bool} {w : World} (h : MemAt M B n c A ws st k a p q d w) (i : Nat) (hi : i < n) (old x : Int) (hx : 0 ≤ x ∧ x ≤ 18446744073709551615) (hs : 0 ≤ st ∧ st ≤ 1000000) (ho : ws i = old) :
    Calls Tryd.prog 25 #[.pointer (some ⟨M, 0, none⟩), .int .i64 (i : Int), .int .u64 old, .int .u64 x] w (Stepped M B n c A (upd ws i x) (st + 1) 3 i (ws i) x true (.tuple #[.bool true, .nilIface]) w) := by
  obtain ⟨rfl, hB, hw, hf, hwb⟩ := h.wd i hi
  have H := Lib.hid h
  have c0 := h.c0
  have HS := Lib.hid hs
  have HWB := Lib.hid hwb
  have hi0 : (0 : Int) ≤ (i : Int) := by omega
  have hi1 : (i : Int) < (n : Int) := by omega
  have HX := Lib.hid hx
  have hbn : (ws i != old) = false := by rw [ho]; simp
  clear hx ho
  clear h hwb hs
  go_enter Tryd.func25, Tryd.ntmps25
  go_wp2_with fail
  refine (refused_in H.out i hi).mono ?_
  rintro e w' ⟨rfl, rfl⟩
  go_wp2_with fail
  refine (step_is H.out 3 i hi x true HX.out HS.out).mono ?_
  rintro e w1 ⟨rfl, hM, hz, hK⟩
  have HM := Lib.hid hM
  have HK := Lib.hid hK
  clear hM hK
  go_wp2
  go_ret2
  exact ⟨rfl, HM.out, hz, HK.out⟩
set_option maxHeartbeats 2000000 in
theorem swap_no {M B n c : Nat} {A : Option Addr} {ws : Nat → Int} {st k a p q : Int} {d : Bool} {w : World} (h : MemAt M B n c A ws st k a p q d w) (i : Nat) (hi : i < n) (old x : Int) (hs : 0 ≤ st ∧ st ≤ 1000000) (ho : ws i ≠ old) :
    Calls Tryd.prog 25 #[.pointer (some ⟨M, 0, none⟩), .int .i64 (i : Int), .int .u64 old, .int .u64 x] w (Stepped M B n c A (upd ws i (ws i)) (st + 1) 3 i (ws i) (ws i) false (.tuple #[.bool false, .nilIface]) w) := by
  obtain ⟨rfl, hB, hw, hf, hwb⟩ := h.wd i hi
  have H := Lib.hid h
  have c0 := h.c0
  have HS := Lib.hid hs
  have HWB := Lib.hid hwb
  have hi0 : (0 : Int) ≤ (i : Int) := by omega
  have hi1 : (i : Int) < (n : Int) := by omega
  have hbn : (ws i != old) = true := by rw [bne_iff_ne]; exact ho
  clear ho
  clear h hwb hs
  go_enter Tryd.func25, Tryd.ntmps25
  go_wp2_with fail
  refine (refused_in H.out i hi).mono ?_
  rintro e w' ⟨rfl, rfl⟩
  go_wp2_with fail
  refine (step_is H.out 3 i hi (ws i) false HWB.out HS.out).mono ?_
  rintro e w1 ⟨rfl, hM, hz, hK⟩
  have HM := Lib.hid hM
  have HK := Lib.hid hK
  clear hM hK
  go_wp2
  go_ret2
  exact ⟨rfl, HM.out, hz, HK.out⟩
set_option maxHeartbeats 2000000 in
theorem load_out {M B n c : Nat} {A : Option Addr} {ws : Nat → Int} {st k a p q : Int} {d : Bool} {w : World} (h : MemAt M B n c A ws st k a p q d w) (i : Int) (hi : i < 0 ∨ (n : Int) ≤ i) :
    Calls Tryd.prog 23 #[.pointer (some ⟨M, 0, none⟩), .int .i64 i] w fun e w' => ∃ v, e = .returned (.tuple #[.int .u64 0, v]) ∧ AtF w w' 5 i v ∧ Below w.heap.size w w' := by
  have H := Lib.hid h
  have HI := Lib.hid hi
  clear h hi
  go_enter Tryd.func23, Tryd.ntmps23
  go_wp2_with fail
  refine (refused_out H.out i HI.out).mono ?_
  rintro e w1 ⟨v, rfl, hF, hb1⟩
  have HF := Lib.hid hF
  obtain ⟨pb, rfl, _⟩ := id hF
  clear hF
  go_wp2
  go_ret2
  exact ⟨_, rfl, HF.out, hb1⟩
set_option maxHeartbeats 2000000 in
theorem store_out {M B n c : Nat} {A : Option Addr} {ws : Nat → Int} {st k a p q : Int} {d : Bool} {w : World} (h : MemAt M B n c A ws st k a p q d w) (i : Int) (hi : i < 0 ∨ (n : Int) ≤ i) (x : Int) :
    Calls Tryd.prog 24 #[.pointer (some ⟨M, 0, none⟩), .int .i64 i, .int .u64 x] w fun e w' => ∃ v, e = .returned (v) ∧ AtF w w' 5 i v ∧ Below w.heap.size w w' := by
  have H := Lib.hid h
  have HI := Lib.hid hi
  clear h hi
  go_enter Tryd.func24, Tryd.ntmps24
  go_wp2_with fail
  refine (refused_out H.out i HI.out).mono ?_
  rintro e w1 ⟨v, rfl, hF, hb1⟩
  have HF := Lib.hid hF
  obtain ⟨pb, rfl, _⟩ := id hF
  clear hF
  go_wp2
  go_ret
  exact ⟨_, rfl, HF.out, hb1⟩
set_option maxHeartbeats 2000000 in
theorem swap_out {M B n c : Nat} {A : Option Addr} {ws : Nat → Int} {st k a p q : Int} {d : Bool} {w : World} (h : MemAt M B n c A ws st k a p q d w) (i : Int) (hi : i < 0 ∨ (n : Int) ≤ i) (old x : Int) :
    Calls Tryd.prog 25 #[.pointer (some ⟨M, 0, none⟩), .int .i64 i, .int .u64 old, .int .u64 x] w fun e w' => ∃ v, e = .returned (.tuple #[.bool false, v]) ∧ AtF w w' 5 i v ∧ Below w.heap.size w w' := by
  have H := Lib.hid h
  have HI := Lib.hid hi
  clear h hi
  go_enter Tryd.func25, Tryd.ntmps25
  go_wp2_with fail
  refine (refused_out H.out i HI.out).mono ?_
  rintro e w1 ⟨v, rfl, hF, hb1⟩
  have HF := Lib.hid hF
  obtain ⟨pb, rfl, _⟩ := id hF
  clear hF
  go_wp2
  go_ret2
  exact ⟨_, rfl, HF.out, hb1⟩
set_option maxHeartbeats 2000000 in
theorem load_nil (i : Int) (w : World) : Calls Tryd.prog 23 #[.pointer none, .int .i64 i] w fun e w' => e = .returned (.tuple #[.int .u64 0, .iface 86 (.int .i64 2)]) ∧ w = w' := by
  go_enter Tryd.func23, Tryd.ntmps23
  go_wp2
  go_ret2
  exact ⟨rfl, rfl⟩
set_option maxHeartbeats 2000000 in
theorem store_nil (i x : Int) (w : World) : Calls Tryd.prog 24 #[.pointer none, .int .i64 i, .int .u64 x] w fun e w' => e = .returned (.iface 86 (.int .i64 2)) ∧ w = w' := by
  go_enter Tryd.func24, Tryd.ntmps24
  go_wp2
  go_ret
  exact ⟨rfl, rfl⟩
set_option maxHeartbeats 2000000 in
theorem swap_nil (i o x : Int) (w : World) : Calls Tryd.prog 25 #[.pointer none, .int .i64 i, .int .u64 o, .int .u64 x] w fun e w' => e = .returned (.tuple #[.bool false, .iface 86 (.int .i64 2)]) ∧ w = w' := by
  go_enter Tryd.func25, Tryd.ntmps25
  go_wp2
  go_ret2
  exact ⟨rfl, rfl⟩
set_option maxHeartbeats 2000000 in
theorem steps_nil (w : World) : Calls Tryd.prog 27 #[.pointer none] w fun e w' => e = .returned (.int .i64 0) ∧ w = w' := by
  go_enter Tryd.func27, Tryd.ntmps27
  go_wp2
  go_ret
  exact ⟨rfl, rfl⟩
set_option maxHeartbeats 2000000 in
theorem last_nil (w : World) : Calls Tryd.prog 28 #[.pointer none] w fun e w' => e = .returned (.agg #[.int .i64 0, .int .i64 0, .int .u64 0, .int .u64 0, .bool false]) ∧ Below w.heap.size w w' := by
  go_enter Tryd.func28, Tryd.ntmps28
  go_wp2
  refine bodyPost_ret (by simp [results, Tryd.results28, go_sem]; try rfl) rfl ⟨rfl, ?_⟩
  go_grown
set_option maxHeartbeats 2000000 in
theorem words_nil (w : World) : Calls Tryd.prog 29 #[.pointer none] w fun e w' => e = .returned (.slice none 0 0) ∧ w = w' := by
  go_enter Tryd.func29, Tryd.ntmps29
  go_wp2
  go_ret
  exact ⟨rfl, rfl⟩
set_option maxHeartbeats 2000000 in
theorem twin_nil (w : World) : Calls Tryd.prog 26 #[.pointer none] w fun e w' => e = .returned (.pointer none) ∧ w = w' := by
  go_enter Tryd.func26, Tryd.ntmps26
  go_wp2
  go_ret
  exact ⟨rfl, rfl⟩
set_option maxHeartbeats 2000000 in
theorem steps_is {M B n c : Nat} {A : Option Addr} {ws : Nat → Int} {st k a p q : Int} {d : Bool} {w : World} (h : MemAt M B n c A ws st k a p q d w) : Calls Tryd.prog 27 #[.pointer (some ⟨M, 0, none⟩)] w fun e w' => e = .returned (.int .i64 st) ∧ w = w' := by
  have c1 := h.c1
  clear h
  go_enter Tryd.func27, Tryd.ntmps27
  go_wp2
  go_ret
  exact ⟨rfl, rfl⟩
set_option maxHeartbeats 2000000 in
theorem last_is {M B n c : Nat} {A : Option Addr} {ws : Nat → Int} {st k a p q : Int} {d : Bool} {w : World} (h : MemAt M B n c A ws st k a p q d w) : Calls Tryd.prog 28 #[.pointer (some ⟨M, 0, none⟩)] w fun e w' => e = .returned (.agg #[.int .i64 k, .int .i64 a, .int .u64 p, .int .u64 q, .bool d]) ∧ Below w.heap.size w w' := by
  have hl := h.ml
  have c2 := h.c2
  have c3 := h.c3
  have c4 := h.c4
  have c5 := h.c5
  have c6 := h.c6
  clear h
  go_enter Tryd.func28, Tryd.ntmps28
  go_wp2
  refine bodyPost_ret (by simp [results, Tryd.results28, go_sem]; try rfl) rfl ⟨rfl, ?_⟩
  go_grown
theorem run_make_rowN {P : Program} (t e : TypeId) (i : TypeInfo) (z : Value) (ht : P.underlying t = some (.slice e)) (hi : P.info? e = some i) (hz : i.zero = some z)
    (kl kc : IntKind) (n c : Nat) (hnc : n ≤ c) (hbytes : i.bytes * c ≤ 281474976710656) (h63 : c ≤ 9223372036854775807) (w : World) :
    (Instr.makeSlice t (.int kl (n : Int)) (.int kc (c : Int))).run P w = .ok (.slice (some ⟨w.heap.size, 0, none⟩) n c) (w.alloc (.cells (madeCells z.cells (c * i.size)) e)) := by
  have hb : (i.bytes : Int) * (c : Int) ≤ 281474976710656 := by
    have h : ((i.bytes * c : Nat) : Int) ≤ 281474976710656 := by omega
    rwa [Int.natCast_mul] at h
  have hr := run_make (P := P) w t e i z ht hi hz kl kc n c (by omega) (by omega) hb (by omega)
  simp only [Int.toNat_natCast] at hr
  exact hr
theorem infoU : (Tryd.prog.info? 23).map (fun i => (i.zero, i.size, i.bytes)) = some (some (.int .u64 0), 1, 8) := by kernel_rfl
theorem makeU (n : Nat) (hn : n ≤ 8192) (W : World) : (Instr.makeSlice 66 (.int .i64 (n : Int)) (.int .i64 (n : Int))).run Tryd.prog W = .ok (.slice (some ⟨W.heap.size, 0, none⟩) n n) (W.alloc (.cells (madeCells (Value.int .u64 0).cells (n * 1)) 23)) := by
  obtain ⟨i0, hi, hz0, hz1, hz2⟩ := info_parts infoU
  have h := run_make_rowN (P := Tryd.prog) 66 23 i0 (.int .u64 0) Tryd.underlying66 hi hz0 .i64 .i64 n n (Nat.le_refl _) (by rw [hz2]; omega) (by omega) W
  rw [hz1] at h
  exact h
theorem made_at (n i : Nat) (hi : i < n) : (madeCells #[Value.int .u64 0] n)[i]? = some (.int .u64 0) := by
  rw [← Array.getElem?_toList, toList_madeCells_one, List.getElem?_replicate, if_pos hi]
set_option maxHeartbeats 2000000 in
theorem new_is (n : Nat) (hn : n ≤ 8192) (w : World) : Calls Tryd.prog 19 #[.int .i64 (n : Int)] w fun e w' => e = .returned (.tuple #[.pointer (some ⟨w.heap.size + 1, 0, none⟩), .nilIface]) ∧ MemAt (w.heap.size + 1) w.heap.size n n (some ⟨w.heap.size, 0, none⟩) (fun _ => 0) 0 0 0 0 0 false w' ∧ Below w.heap.size w w' := by
  have hmk := makeU n hn
  have h0 : (0 : Int) ≤ (n : Int) := by omega
  have h1 : (n : Int) ≤ 8192 := by omega
  go_enter Tryd.func19, Tryd.ntmps19
  have g1 : ((w.alloc (Obj.cells (madeCells #[Value.int .u64 0] n) 23)).alloc (Obj.cells #[.slice (some ⟨w.heap.size, 0, none⟩) n n, .int .i64 0, .int .i64 0, .int .i64 0, .int .u64 0, .int .u64 0, .bool false] 96)).heap[w.heap.size]? = some (.cells (madeCells #[Value.int .u64 0] n) 23 (0, 0)) := (Below.heap_alloc _ _ _ (by simp)).trans (heap_alloc_new w _)
  have g2 : ((w.alloc (Obj.cells (madeCells #[Value.int .u64 0] n) 23)).alloc (Obj.cells #[.slice (some ⟨w.heap.size, 0, none⟩) n n, .int .i64 0, .int .i64 0, .int .i64 0, .int .u64 0, .int .u64 0, .bool false] 96)).heap[w.heap.size + 1]? = some (.cells #[.slice (some ⟨w.heap.size, 0, none⟩) n n, .int .i64 0, .int .i64 0, .int .i64 0, .int .u64 0, .int .u64 0, .bool false] 96 (0, 0)) := by
    have := heap_alloc_new (w.alloc (Obj.cells (madeCells #[Value.int .u64 0] n) 23)) (Obj.cells #[.slice (some ⟨w.heap.size, 0, none⟩) n n, .int .i64 0, .int .i64 0, .int .i64 0, .int .u64 0, .int .u64 0, .bool false] 96)
    rw [World.size_alloc] at this
    exact this
  have G1 := Lib.hid g1
  have G2 := Lib.hid g2
  clear g1 g2
  go_wp2
  go_ret2
  refine ⟨rfl, ⟨?_, ?_, ?_, ?_, ?_, ?_, ?_, fun o _ => blk_frozen G2.out o, blk_lt G2.out, fun i hi => ⟨rfl, blk_lt G1.out, by rw [cell_of_row _ _ _ _ _ _ G1.out]; exact made_at n i hi, blk_frozen G1.out i, by decide, by decide⟩, by omega, rfl, blk_lt G1.out⟩, by go_grown⟩
  all_goals (rw [cell_of_row _ _ _ _ _ _ G2.out]; rfl)
theorem new_no (n : Int) (hn : n < 0 ∨ 8192 < n) (w : World) : Calls Tryd.prog 19 #[.int .i64 n] w fun e w' => e = .returned (.tuple #[.pointer none, .iface 86 (.int .i64 4)]) ∧ w = w' := by
  by_cases h0 : n < 0
  · clear hn
    go_enter Tryd.func19, Tryd.ntmps19
    go_wp2
    go_ret2
    exact ⟨rfl, rfl⟩
  · have h1 : 8192 < n := by omega
    clear hn
    go_enter Tryd.func19, Tryd.ntmps19
    go_wp2
    go_ret2
    exact ⟨rfl, rfl⟩
/-- Words that are there. -/
structure WordsAt (B n : Nat) (A : Option Addr) (ws : Nat → Int) (w : World) : Prop where
  ha : A = some ⟨B, 0, none⟩
  bl : B < w.heap.size
  wd : ∀ i, i < n → w.cell? ⟨B, i, none⟩ = some (.int .u64 (ws i)) ∧ w.frozen? ⟨B, i, none⟩ = false ∧ 0 ≤ ws i ∧ ws i ≤ 18446744073709551615
theorem WordsAt.below {B n : Nat} {A : Option Addr} {ws : Nat → Int} {w w' : World} (h : WordsAt B n A ws w) (hb : Below w.heap.size w w') : WordsAt B n A ws w' :=
  ⟨h.ha, Nat.lt_of_lt_of_le h.bl hb.size, fun i hi => ⟨(hb.cell (p := ⟨B, i, none⟩) h.bl).trans (h.wd i hi).1, (hb.frozen (p := ⟨B, i, none⟩) h.bl).trans (h.wd i hi).2.1, (h.wd i hi).2.2⟩⟩
theorem MemAt.words {M B n c : Nat} {A : Option Addr} {ws : Nat → Int} {st k a p q : Int} {d : Bool} {w : World} (h : MemAt M B n c A ws st k a p q d w) : WordsAt B n A ws w := ⟨h.ha, h.bl, fun i hi => (h.wd i hi).2.2⟩
def vals (n : Nat) (ws : Nat → Int) : List Value := (List.range n).map (fun i => Value.int .u64 (ws i))
theorem vals_at (n : Nat) (ws : Nat → Int) (i : Nat) (hi : i < n) : (vals n ws)[i]? = some (.int .u64 (ws i)) := by
  unfold vals
  rw [List.getElem?_map, List.getElem?_range hi]
  rfl
theorem vals_len (n : Nat) (ws : Nat → Int) : (vals n ws).length = n := by simp [vals]
theorem vals_one (n : Nat) (ws : Nat → Int) : ∀ u ∈ vals n ws, u.oneCell' = true := by
  intro u hu
  unfold vals at hu
  obtain ⟨i, _, rfl⟩ := List.mem_map.1 hu
  rfl
theorem words_read {B n : Nat} {A : Option Addr} {ws : Nat → Int} {w : World} (h : WordsAt B n A ws w) : Reads w w.heap.size 1 A n (vals n ws) := by
  refine ⟨by rw [vals_len, Nat.mul_one], fun hn => ⟨_, h.ha, h.bl, fun j u hu => ?_⟩⟩
  have hj : j < n := by have := (List.getElem?_eq_some_iff.1 hu).1; rw [vals_len] at this; exact this
  rw [vals_at n ws j hj] at hu
  injection hu with hu
  subst hu
  have := (h.wd j hj).1
  unfold Addr.add
  by_cases h0 : j = 0
  · subst h0; simpa using this
  · simpa [h0] using this
def Cloned (n : Nat) (ws : Nat → Int) (w : World) (e : Ending) (w' : World) : Prop := ∃ (B' c' : Nat), e = .returned (.slice (some ⟨B', 0, none⟩) n c') ∧ WordsAt B' n (some ⟨B', 0, none⟩) ws w' ∧ w.heap.size ≤ B' ∧ Below w.heap.size w w'
set_option maxRecDepth 100000 in
set_option maxHeartbeats 2000000 in
theorem clone_is {B n c : Nat} {A : Option Addr} {ws : Nat → Int} {w : World} (h : WordsAt B n A ws w) (hn : n ≤ 8192) : Calls Tryd.prog 56 #[.slice A n c] w (Cloned n ws w) := by
  obtain ⟨i0, hi, hz0, hz1, hz2⟩ := info_parts infoU
  obtain rfl := h.ha
  have g1 := heap_alloc_new w (Obj.cells #[] 23)
  have G1 := Lib.hid g1
  have HRD := Lib.hid (words_read h)
  have HW := Lib.hid h
  clear g1 h
  have hq := Lib.run_eql_slice_nil (P := Tryd.prog) w 66 23 (some ⟨B, 0, none⟩) n c 0 0 Tryd.underlying66
  have HO := Lib.hid (show (w.alloc (Obj.cells #[] 23)).ownsRow w.heap.size 23 1 (.slice (some ⟨w.heap.size, 0, none⟩) 0 0) 0 [] from ⟨rfl, .inr ⟨w.heap.size, 0, #[], rfl, Nat.le_refl _, G1.out, Nat.le_refl _, Nat.zero_le _, rfl, rfl⟩⟩)
  have HR2 := Lib.hid (HRD.out.alloc (Nat.le_refl _) (Obj.cells #[] 23))
  go_enter Tryd.func56, Tryd.ntmps56
  have N1 := Lib.hid (show 0 + n ≤ maxLen from by unfold maxLen; omega)
  have N2 := Lib.hid (show (0 + n) * 8 ≤ 140737488355328 from by omega)
  have N3 := Lib.hid (show w.heap.size ≤ (w.alloc (Obj.cells #[] 23)).heap.size from by simp)
  have NV := Lib.hid (vals_one n ws)
  have HI := Lib.hid hi
  have HZ0 := Lib.hid hz0
  have HZ1 := Lib.hid hz1
  have HZ2 := Lib.hid hz2
  clear hi hz0 hz1 hz2 hn
  go_wp2_with (at_builtin; refine wpList_append_any _ rfl (.tmp 5) (.tmp 6) 66 rfl w.heap.size 23 i0 (.int .u64 0) 1 8 Tryd.underlying66 HI.out HZ0.out HZ1.out HZ2.out rfl (by decide) (.slice (some ⟨w.heap.size, 0, none⟩) 0 0) 0 [] rfl HO.out _ (some ⟨B, 0, none⟩) n c (vals n ws) rfl HR2.out NV.out N1.out N2.out N3.out ?_; intro v' w' h2 h3 h4)
  go_ret
  obtain ⟨_, h5⟩ := h2
  rcases h5 with ⟨rfl, _⟩ | ⟨g, cap, cur, rfl, hg, hh, hnc, hcm, hsz, htk⟩
  · exfalso
    rcases h4 with h4 | h4
    · exact absurd h4 (by simp [Value.ownBlock])
    · exact absurd h4 (by simp [Value.ownBlock])
  · simp only [Nat.zero_add, Nat.mul_one, List.nil_append] at htk hnc
    have hb : Below w.heap.size w w' := Below.grown (show Below w.heap.size w (w.alloc (Obj.cells #[] 23)) from by go_grown) h3 (by simp) (fun k e => by simp only [Value.ownBlock] at e; injection e with e; omega)
    refine ⟨g, cap, by first | rfl | (rw [Nat.zero_add]; rfl), ⟨rfl, blk_lt hh, fun i hi => ⟨?_, blk_frozen hh i, (HW.out.wd i hi).2.2⟩⟩, hg, hb⟩
    rw [cell_of_row _ _ _ _ _ _ hh, ← Array.getElem?_toList]
    have e := vals_at n ws i hi
    rw [← htk, List.getElem?_take, if_pos hi] at e
    exact e
set_option maxHeartbeats 2000000 in
theorem words_is {M B n c : Nat} {A : Option Addr} {ws : Nat → Int} {st k a p q : Int} {d : Bool} {w : World} (h : MemAt M B n c A ws st k a p q d w) (hn : n ≤ 8192) : Calls Tryd.prog 29 #[.pointer (some ⟨M, 0, none⟩)] w (Cloned n ws w) := by
  have c0 := h.c0
  have HC := Lib.hid (clone_is (c := c) h.words hn)
  clear h
  go_enter Tryd.func29, Tryd.ntmps29
  go_wp2_with fail
  refine HC.out.mono ?_
  rintro e w1 ⟨B', c', rfl, hW, hl, hb⟩
  have HX := Lib.hid (show WordsAt B' n (some ⟨B', 0, none⟩) ws w1 from hW)
  clear hW
  go_wp2
  go_ret
  exact ⟨B', c', rfl, HX.out, hl, hb⟩
end Go.Proofs.YtjkojbaphdlhlaaDoor.Mm

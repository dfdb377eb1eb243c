/-
  Agents of rules; rows of counts; rows.
-/
import Derived.Test.YtgakgnofflnjoaaRows
import Derived.Test.YtgakgnofflnjoaaKit
import Derived.Test.YtgakgnofflnjoaaApp
import Derived.Test.YtgakgnofflnjoaaQuiet
import Derived.WalkKit
import Derived.ProofKit
import Derived.OpenShut
import Derived.ShutString
import Derived.Below
import Derived.Outline
import Derived.WalkLawsBesides
import Derived.WalkSpells
import Derived.Handy
import Derived.Deep.QuietTactic
import Derived.BigQuiet
import Derived.RegionTactic
import Derived.ChangeAlike
import Derived.Lib.Hide
import Derived.Laws.Rows
import Derived.Laws.Tables
import Derived.Laws.CopyOwn
import Derived.Laws.MakeOwn
import Derived.Laws.Entries
import Derived.Laws.OwnMore
import Derived.Deep.WholeRow
import Derived.Deep.LoopGhost
import Derived.Deep.AppendLies
import Derived.Deep.Draws
import Derived.Maps.AppendAt
import Derived.OwnWalk
import Derived.Deep.RegionHeld3
import Derived.Deep.Cut
import Derived.Deep.CutRange
import Derived.Deep.DeepCutAuto
import Derived.Deep.CutBlock
import Derived.Lib.SliceRun
import Derived.IntWalk
namespace Go.Proofs.Ytgakgnofflnjoaa
open Go.ChangeShapes Go.WideShapes Go.ChangeAt Go.RowKit
/-- A block of seven numbers. -/
def Blk7 (B : Nat) (v0 v1 v2 v3 v4 v5 v6 : Int) (w : World) : Prop :=
  (w.cell? ⟨B, 0, none⟩ = some (.int .i64 v0) ∧ w.cell? ⟨B, 1, none⟩ = some (.int .i64 v1) ∧ w.cell? ⟨B, 2, none⟩ = some (.int .i64 v2) ∧ w.cell? ⟨B, 3, none⟩ = some (.int .i64 v3) ∧ w.cell? ⟨B, 4, none⟩ = some (.int .i64 v4) ∧ w.cell? ⟨B, 5, none⟩ = some (.int .i64 v5) ∧ w.cell? ⟨B, 6, none⟩ = some (.int .i64 v6)) ∧ B < w.heap.size
theorem Blk7.below {B : Nat} {v0 v1 v2 v3 v4 v5 v6 : Int} {w w' : World} (h : Blk7 B v0 v1 v2 v3 v4 v5 v6 w) (hb : Below w.heap.size w w') : Blk7 B v0 v1 v2 v3 v4 v5 v6 w' := by
  obtain ⟨⟨c0, c1, c2, c3, c4, c5, c6⟩, hl⟩ := h
  have hc : ∀ o, w'.cell? ⟨B, o, none⟩ = w.cell? ⟨B, o, none⟩ := fun o => hb.cell (p := ⟨B, o, none⟩) hl
  exact ⟨⟨(hc 0).trans c0, (hc 1).trans c1, (hc 2).trans c2, (hc 3).trans c3, (hc 4).trans c4, (hc 5).trans c5, (hc 6).trans c6⟩, Nat.lt_of_lt_of_le hl hb.size⟩
theorem Blk7.new (w : World) (v0 v1 v2 v3 v4 v5 v6 : Int) (t : TypeId) : Blk7 w.heap.size v0 v1 v2 v3 v4 v5 v6 (w.alloc (.cells #[.int .i64 v0, .int .i64 v1, .int .i64 v2, .int .i64 v3, .int .i64 v4, .int .i64 v5, .int .i64 v6] t)) := by
  refine ⟨⟨?_, ?_, ?_, ?_, ?_, ?_, ?_⟩, ?_⟩ <;> simp [go_sem]
theorem Blk7.drew {B : Nat} {v0 v1 v2 v3 v4 v5 v6 : Int} {w : World} (h : Blk7 B v0 v1 v2 v3 v4 v5 v6 w) : Blk7 B v0 v1 v2 v3 v4 v5 v6 w.drew := Blk7.below h (Below.drew (Below.refl _ _))
theorem mul12 {n b : Int} (hn : 1 ≤ n ∧ n ≤ 3) (hb : 1 ≤ b ∧ b ≤ 4) : 1 ≤ n * b ∧ n * b ≤ 12 := by
  obtain ⟨n1, n2⟩ := hn
  rcases (show b = 1 ∨ b = 2 ∨ b = 3 ∨ b = 4 by omega) with rfl | rfl | rfl | rfl <;> omega
set_option maxHeartbeats 1000000 in
theorem shards_i (p c n b r f g : Int) (w : World) (m : 1 ≤ n * b ∧ n * b ≤ 12) : Calls Try.prog 32 #[.agg #[.int .i64 p, .int .i64 c, .int .i64 n, .int .i64 b, .int .i64 r, .int .i64 f, .int .i64 g]] w fun e w' => e = .returned (.int .i64 (n * b)) ∧ Below w.heap.size w w' := by
  obtain ⟨m0, m1⟩ := m
  go_enter Try.func32, Try.ntmps32
  go_wp2
  go_ret
  exact ⟨rfl, by go_grown⟩
set_option maxHeartbeats 1000000 in
theorem agents_i (p c n b r f g : Int) (w : World) (m : 1 ≤ n * b ∧ n * b ≤ 12) (hp : 1 ≤ p ∧ p ≤ 6) : Calls Try.prog 27 #[.agg #[.int .i64 p, .int .i64 c, .int .i64 n, .int .i64 b, .int .i64 r, .int .i64 f, .int .i64 g]] w fun e w' => e = .returned (.int .i64 (p + 2 * (n * b))) ∧ Below w.heap.size w w' := by
  have M := Lib.hid m
  obtain ⟨m0, m1⟩ := m
  obtain ⟨p1, p2⟩ := hp
  have W1 : IntKind.i64.wrap (2 * (n * b)) = 2 * (n * b) := IntWalk.i64_in _ (by omega)
  have W2 : IntKind.i64.wrap (p + 2 * (n * b)) = p + 2 * (n * b) := IntWalk.i64_in _ (by omega)
  have bX := Blk7.drew (Blk7.new w p c n b r f g 28)
  have hC : Below w.heap.size w (w.alloc (.cells #[.int .i64 p, .int .i64 c, .int .i64 n, .int .i64 b, .int .i64 r, .int .i64 f, .int .i64 g] 28)).drew := Below.drew (by go_grown)
  have hS := bX.1
  go_enter Try.func27, Try.ntmps27
  go_wp2_with fail
  go_region_held3 (fun w' => w'.cell? ⟨w.heap.size, 0, none⟩ = some (.int .i64 p) ∧ w'.cell? ⟨w.heap.size, 1, none⟩ = some (.int .i64 c) ∧ w'.cell? ⟨w.heap.size, 2, none⟩ = some (.int .i64 n) ∧ w'.cell? ⟨w.heap.size, 3, none⟩ = some (.int .i64 b) ∧ w'.cell? ⟨w.heap.size, 4, none⟩ = some (.int .i64 r) ∧ w'.cell? ⟨w.heap.size, 5, none⟩ = some (.int .i64 f) ∧ w'.cell? ⟨w.heap.size, 6, none⟩ = some (.int .i64 g)) (first | with_reducible exact hS | fail) (first | (go_at_call 32; (with_reducible refine (shards_i p c n b r f g _ M.out).mono ?_); rintro e wy ⟨rfl, hby⟩; have bX := Blk7.below bX hby; have hC := Below.step hC hby; have hS := bX.1; clear hby) | fail)
  go_wp2
  go_ret
  exact ⟨rfl, hC⟩
theorem blk_set {w : World} {g : Nat} {t : TypeId} {cs : Array Value} (h : w.heap[g]? = some (.cells cs t (0, 0))) (i : Nat) (u : Value) : (w.setCell ⟨g, i, none⟩ u).heap[g]? = some (.cells (cs.setIfInBounds i u) t (0, 0)) := by
  simp [World.setCell, Array.getElem?_modify, h]
theorem blk_far {w : World} {g : Nat} {o : Obj} (h : w.heap[g]? = some o) {p : Addr} (hp : g ≠ p.block) (u : Value) : (w.setCell p u).heap[g]? = some o := (Below.heap_setCell w p u g hp).trans h
theorem blk_frozen {w : World} {g : Nat} {t : TypeId} {cs : Array Value} (h : w.heap[g]? = some (.cells cs t (0, 0))) (i : Nat) : w.frozen? ⟨g, i, none⟩ = false := by
  simp [World.frozen?, h]
theorem blk_lt {w : World} {g : Nat} {o : Obj} (h : w.heap[g]? = some o) : g < w.heap.size := by
  rcases Nat.lt_or_ge g w.heap.size with hlt | hge
  · exact hlt
  · rw [Array.getElem?_eq_none hge] at h; cases h

theorem run_make_rowN {P : Program} (t e : TypeId) (i : TypeInfo) (z : Value) (ht : P.underlying t = some (.slice e)) (hi : P.info? e = some i) (hz : i.zero = some z)
    (kl kc : IntKind) (n c : Nat) (hnc : n ≤ c) (hbytes : i.bytes * c ≤ 281474976710656) (h63 : c ≤ 9223372036854775807) (w : World) :
    (Instr.makeSlice t (.int kl (n : Int)) (.int kc (c : Int))).run P w = .ok (.slice (some ⟨w.heap.size, 0, none⟩) n c) (w.alloc (.cells (madeCells z.cells (c * i.size)) e)) := by
  have hb : (i.bytes : Int) * (c : Int) ≤ 281474976710656 := by
    have h : ((i.bytes * c : Nat) : Int) ≤ 281474976710656 := by omega
    rwa [Int.natCast_mul] at h
  have hr := run_make (P := P) w t e i z ht hi hz kl kc n c (by omega) (by omega) hb (by omega)
  simp only [Int.toNat_natCast] at hr
  exact hr
theorem infoI : (Try.prog.info? 3).map (fun i => (i.zero, i.size, i.bytes)) = some (some (.int .i64 0), 1, 8) := by kernel_rfl
theorem makeI (n : Nat) (hn : n ≤ 64) (W : World) : (Instr.makeSlice 56 (.int .i64 (n : Int)) (.int .i64 (n : Int))).run Try.prog W = .ok (.slice (some ⟨W.heap.size, 0, none⟩) n n) (W.alloc (.cells (madeCells (Value.int .i64 0).cells (n * 1)) 3)) := by
  obtain ⟨i0, hi, hz0, hz1, hz2⟩ := info_parts infoI
  have h := run_make_rowN (P := Try.prog) 56 3 i0 (.int .i64 0) Try.underlying56 hi hz0 .i64 .i64 n n (Nat.le_refl _) (by rw [hz2]; omega) (by omega) W
  rw [hz1] at h
  exact h
/-- A row of counts in the call's own block. -/
def Cts (w : World) (O m : Nat) (f : Nat → Nat) : Prop := ∃ cs : Array Value, w.heap[O]? = some (.cells cs 3 (0, 0)) ∧ cs.size = m ∧ ∀ j, j < m → cs[j]? = some (.int .i64 ((f j : Nat) : Int))
theorem Cts.below {w w' : World} {O m : Nat} {f : Nat → Nat} (h : Cts w O m f) (hb : Below w.heap.size w w') : Cts w' O m f := by
  obtain ⟨cs, h1, h2, h3⟩ := h
  exact ⟨cs, (hb.block O (blk_lt h1)).trans h1, h2, h3⟩
theorem Cts.cell {w : World} {O m : Nat} {f : Nat → Nat} (h : Cts w O m f) (j : Nat) (hj : j < m) : w.cell? ⟨O, j, none⟩ = some (.int .i64 ((f j : Nat) : Int)) ∧ w.frozen? ⟨O, j, none⟩ = false ∧ O < w.heap.size := by
  obtain ⟨cs, h1, h2, h3⟩ := h
  exact ⟨by rw [cell_of_row _ _ _ _ _ _ h1]; exact h3 j hj, blk_frozen h1 j, blk_lt h1⟩
theorem Cts.set {w : World} {O m : Nat} {f : Nat → Nat} (h : Cts w O m f) (j : Nat) (hj : j < m) (x : Nat) : Cts (w.setCell ⟨O, j, none⟩ (.int .i64 (x : Int))) O m (fun i => if i = j then x else f i) := by
  obtain ⟨cs, h1, h2, h3⟩ := h
  refine ⟨_, blk_set h1 j _, by rw [Array.size_setIfInBounds]; exact h2, fun i hi => ?_⟩
  by_cases hij : i = j
  · subst hij
    rw [Array.getElem?_setIfInBounds_self_of_lt (by omega)]
    simp
  · rw [Array.getElem?_setIfInBounds_ne (fun e => hij e.symm), h3 i hi]; dsimp only; rw [if_neg hij]
theorem Cts.ext {w : World} {O m : Nat} {f g : Nat → Nat} (h : Cts w O m f) (hf : ∀ j, j < m → f j = g j) : Cts w O m g := by
  obtain ⟨cs, h1, h2, h3⟩ := h
  exact ⟨cs, h1, h2, fun j hj => by rw [h3 j hj, hf j hj]⟩
theorem own_shape {w : World} {base : Nat} {e : TypeId} {size : Nat} {v : Value} {n : Nat} {xs : List Value} (h : w.ownsRow base e size v n xs) : ∃ A c, v = .slice A n c := by
  rcases h.2 with ⟨rfl, rfl⟩ | ⟨g, cap, cur, hv, _⟩
  · exact ⟨_, _, rfl⟩
  · exact ⟨_, _, hv⟩
theorem row_kept {w wx : World} {base : Nat} {e : TypeId} {size m : Nat} {v : Value} {xs : List Value} (h : w.ownsRow base e size v m xs) (hb : Below w.heap.size w wx) : wx.ownsRow base e size v m xs := by
  refine ⟨h.1, ?_⟩
  rcases h.2 with h0 | ⟨g, cap, cur, hv, hg, hgh, hr⟩
  · exact .inl h0
  · have hlt : g < w.heap.size := by
      rcases Nat.lt_or_ge g w.heap.size with hlt | hge
      · exact hlt
      · rw [Array.getElem?_eq_none hge] at hgh; cases hgh
    exact .inr ⟨g, cap, cur, hv, hg, (hb.block g hlt).trans hgh, hr⟩

theorem infoE : (Try.prog.info? 47).map (fun i => (i.zero, i.size, i.bytes)) = some (some (.agg #[.int .i64 0, .int .i64 0, .int .i64 0, .int .i64 0, .int .i64 0, .int .i64 0, .int .i64 0, .int .i64 0, .int .i64 0, .int .i64 0, .int .i64 0, .int .i64 0]), 12, 96) := by kernel_rfl
theorem reads_newN (w : World) (n s : Nat) (l : List Value) (t : TypeId) (hl : l.length = n * s) : Reads (w.alloc (.cells l.toArray t)) (w.heap.size + 1) s (some ⟨w.heap.size, 0, none⟩) n l := by
  refine ⟨hl, fun _ => ⟨_, rfl, by show w.heap.size < w.heap.size + 1; omega, fun j u hu => ?_⟩⟩
  have hg := heap_alloc_new w (.cells l.toArray t)
  unfold Addr.add
  by_cases h0 : j = 0
  · subst h0
    simp only [if_true]
    rw [cell_of_row _ _ _ _ _ _ hg]
    simpa using hu
  · simp only [h0, if_false, Nat.zero_add]
    rw [cell_of_row _ _ _ _ _ _ hg]
    simpa using hu
end Go.Proofs.Ytgakgnofflnjoaa

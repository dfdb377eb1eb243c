/-
  A tape of numbers and another row, by contracts: Put, Take, Left, Taken.
-/
import Derived.Test.YtdjdpbgemdmpiaaRows
import Derived.WalkKit
import Derived.ProofKit
import Derived.OpenShut
import Derived.ShutString
import Derived.Below
import Derived.Outline
import Derived.WalkLawsBesides
import Derived.WalkSpells
import Derived.Handy
import Derived.Deep.QuietTactic
import Derived.BigQuiet
import Derived.RegionTactic
import Derived.ChangeAlike
import Derived.Lib.Hide
import Derived.Test.YtdjdpbgemdmpiaaKit
import Derived.Test.YtdjdpbgemdmpiaaTick
import Derived.Test.YtdjdpbgemdmpiaaApp
import Derived.Test.YtdjdpbgemdmpiaaRowAt
namespace Go.Proofs.Ytdjdpbgemdmpiaa
open Go.ChangeShapes Go.WideShapes Go.ChangeAt Go.RowKit
theorem tinfo (P : Unit) : (Try.prog.info? 3).map (fun i => (i.zero, i.size, i.bytes)) = some (some (.int .i64 0), 1, 8) := by kernel_rfl
theorem ints_one (xs : List Int) : ∀ u ∈ xs.map (Value.int .i64), u.oneCell' = true := by
  intro u hu
  obtain ⟨x, _, rfl⟩ := List.mem_map.1 hu
  rfl
def ints (xs : List Int) : List Value := xs.map (Value.int .i64)
theorem ints_len (xs : List Int) : (ints xs).length = xs.length := List.length_map _
theorem ints_app (xs ys : List Int) : ints (xs ++ ys) = ints xs ++ ints ys := List.map_append
theorem fz_set (w : World) (a b : Addr) (v : Value) : (w.setCell a v).frozen? b = w.frozen? b := by simp [go_sem]
theorem RowAt.shape {w : World} {base n : Nat} {e : TypeId} {v : Value} {xs : List Value} (h : RowAt w base e v n xs) : ∃ A c, v = .slice A n c := by
  rcases h.2 with ⟨rfl, h0⟩ | ⟨g, off, cap, cur, rfl, _⟩
  · rw [h0]; exact ⟨_, _, rfl⟩
  · exact ⟨_, _, rfl⟩
/-- A tape in block s, its row, and another row of the call's own. -/
structure St (w0 w : World) (s : Nat) (L : List Int) (k : Nat) (v : Value) (Z : List Int) (va : Value) : Prop where
  c0 : w.cell? ⟨s, 0, none⟩ = some v
  c1 : w.cell? ⟨s, 1, none⟩ = some (.int .i64 k)
  f0 : w.frozen? ⟨s, 0, none⟩ = false
  f1 : w.frozen? ⟨s, 1, none⟩ = false
  sl : s < w.heap.size
  rt : RowAt w (s + 1) 3 v L.length (ints L)
  ra : RowAt w (s + 1) 3 va Z.length (ints Z)
  sp : v.ownBlock = none ∨ v.ownBlock ≠ va.ownBlock
  bl : Below s w0 w
theorem grown_below {w0 w w1 : World} {s : Nat} {row : Option Nat} (h : Below s w0 w) (hg : w.grownBy w1 row) (hs : s ≤ w.heap.size) (hr : ∀ k, row = some k → s ≤ k) : Below s w0 w1 := Below.grown h hg hs hr
theorem St.app {w0 w w1 : World} {s k : Nat} {L Z ys : List Int} {v va va' : Value} (h : St w0 w s L k v Z va) (hg : w.grownBy w1 va.ownBlock) (hr : RowAt w1 (s + 1) 3 va' (Z.length + ys.length) (ints Z ++ ints ys)) (hv : va'.ownBlock = va.ownBlock ∨ va'.ownBlock = some w.heap.size) : St w0 w1 s L k v (Z ++ ys) va' := by
  have hb : w1.heap[s]? = w.heap[s]? := hg.block s h.sl (fun e => by have := (h.ra.lt s e.symm).1; omega)
  have hsp : v.ownBlock = none ∨ v.ownBlock ≠ va.ownBlock := h.sp
  refine ⟨(World.cell?_of_block (w := w) (a := ⟨s, 0, none⟩) hb).trans h.c0, (World.cell?_of_block (w := w) (a := ⟨s, 1, none⟩) hb).trans h.c1, (World.frozen?_of_block (w := w) (a := ⟨s, 0, none⟩) hb).trans h.f0, (World.frozen?_of_block (w := w) (a := ⟨s, 1, none⟩) hb).trans h.f1, Nat.lt_of_lt_of_le h.sl hg.size, h.rt.grown hg hsp, by rw [List.length_append, ints_app]; exact hr, ?_, Below.grown h.bl hg (Nat.le_of_lt h.sl) (fun k e => by have := (h.ra.lt k e).1; omega)⟩
  rcases hv with hv | hv
  · rw [hv]; exact h.sp
  · rw [hv]
    rcases h.sp with h0 | h0
    · exact .inl h0
    · right
      intro e
      have := (h.rt.lt _ e).2
      omega
theorem St.put {w0 w w1 : World} {s k : Nat} {L Z ys : List Int} {v va v' : Value} (h : St w0 w s L k v Z va) (hg : w.grownBy w1 v.ownBlock) (hr : RowAt w1 (s + 1) 3 v' (L.length + ys.length) (ints L ++ ints ys)) (hv : v'.ownBlock = v.ownBlock ∨ v'.ownBlock = some w.heap.size) : St w0 (w1.setCell ⟨s, 0, none⟩ v') s (L ++ ys) k v' Z va := by
  have hb : w1.heap[s]? = w.heap[s]? := hg.block s h.sl (fun e => by have := (h.rt.lt s e.symm).1; omega)
  have hset : ∀ g, g ≠ s → (w1.setCell ⟨s, 0, none⟩ v').heap[g]? = w1.heap[g]? := fun g hgs => Below.heap_setCell w1 ⟨s, 0, none⟩ v' g hgs
  have hrow : ∀ {b : Nat} {u : Value} {n : Nat} {xs : List Value}, s < b → RowAt w1 b 3 u n xs → RowAt (w1.setCell ⟨s, 0, none⟩ v') b 3 u n xs := by
    intro b u n xs hsb hR
    refine ⟨hR.1, ?_⟩
    rcases hR.2 with h0 | ⟨g, off, cap, cur, rfl, hbg, hh, hrest⟩
    · exact .inl h0
    · exact .inr ⟨g, off, cap, cur, rfl, hbg, (hset g (by omega)).trans hh, hrest⟩
  have hsa : va.ownBlock = none ∨ va.ownBlock ≠ v.ownBlock := by
    rcases h.sp with h0 | h0
    · rcases hva : va.ownBlock with _ | b
      · exact .inl rfl
      · right; rw [h0]; simp
    · exact .inr (Ne.symm h0)
  refine ⟨World.cell?_setCell_same _ _ _ ((World.cell?_of_block (w := w) (a := ⟨s, 0, none⟩) hb).trans h.c0), ?_, ?_, ?_, by rw [World.size_setCell]; exact Nat.lt_of_lt_of_le h.sl hg.size, by rw [List.length_append, ints_app]; exact hrow (Nat.lt_succ_self s) hr, hrow (Nat.lt_succ_self s) (h.ra.grown hg hsa), ?_, (Below.grown h.bl hg (Nat.le_of_lt h.sl) (fun k e => by have := (h.rt.lt k e).1; omega)).setCell (Nat.le_refl s) _⟩
  · rw [World.cell?_setCell_other _ _ _ _ (by intro e; injection e with _ e2; exact absurd e2 (by decide))]
    exact (World.cell?_of_block (w := w) (a := ⟨s, 1, none⟩) hb).trans h.c1
  · rw [fz_set]; exact (World.frozen?_of_block (w := w) (a := ⟨s, 0, none⟩) hb).trans h.f0
  · rw [fz_set]; exact (World.frozen?_of_block (w := w) (a := ⟨s, 1, none⟩) hb).trans h.f1
  · rcases hv with hv | hv
    · rw [hv]; exact h.sp
    · rw [hv]
      right
      intro e
      have := (h.ra.lt _ e.symm).2
      omega
set_option maxRecDepth 100000 in
set_option maxHeartbeats 1000000 in
theorem put_is {w0 w : World} {s k : Nat} {L Z : List Int} {v va : Value} (h : St w0 w s L k v Z va) (A : Option Addr) (m cap : Nat) (ys : List Int) (hm : ys.length = m) (hr : Reads w w.heap.size 1 A m (ints ys)) (hb : L.length + m ≤ 1000000) :
    Calls Try.prog 21 #[.pointer (some ⟨s, 0, none⟩), .slice A m cap] w fun e w' => e = .returned (.tuple #[]) ∧ ∃ v', St w0 w' s (L ++ ys) k v' Z va := by
  obtain ⟨i0, hi, hz0, hz1, hz2⟩ := info_parts (tinfo ())
  subst hm
  have HI := Lib.hid hi
  have HZ0 := Lib.hid hz0
  have HZ1 := Lib.hid hz1
  have HZ2 := Lib.hid hz2
  have H := Lib.hid h
  have HR := Lib.hid hr
  have N1 := Lib.hid (show L.length + ys.length ≤ maxLen from by unfold maxLen; omega)
  have N2 := Lib.hid (show (L.length + ys.length) * 8 ≤ 140737488355328 from by omega)
  have c0 := h.c0
  have f0 := h.f0
  have hsl := h.sl
  have hfar : ∀ w1 : World, w.grownBy w1 v.ownBlock → w1.cell? ⟨s, 0, none⟩ = some v ∧ w1.frozen? ⟨s, 0, none⟩ = false := fun w1 hg => by
    have hbk : w1.heap[s]? = w.heap[s]? := hg.block s H.out.sl (fun e => by have := (H.out.rt.lt s e.symm).1; omega)
    exact ⟨(World.cell?_of_block (w := w) (a := ⟨s, 0, none⟩) hbk).trans H.out.c0, (World.frozen?_of_block (w := w) (a := ⟨s, 0, none⟩) hbk).trans H.out.f0⟩
  have HFAR := Lib.hid hfar
  clear hi hz0 hz1 hz2 h hr hb hfar
  go_enter Try.func21, Try.ntmps21
  go_wp2_with (at_builtin; refine wpList_append_row _ rfl (.tmp 10) (.tmp 11) 49 rfl (s + 1) 3 i0 (.int .i64 0) 8 Try.underlying49 HI.out HZ0.out HZ1.out HZ2.out rfl _ L.length (ints L) rfl H.out.rt _ A ys.length cap (ints ys) rfl HR.out (ints_one ys) N1.out N2.out (by omega) ?_; intro v' w1 h2 h3 h4; obtain ⟨d0, df0⟩ := HFAR.out w1 h3; have HP := Lib.hid (And.intro h2 (And.intro h3 h4)); obtain ⟨A3, c3, hv3⟩ := RowAt.shape h2; rw [hv3]; have HV := Lib.hid hv3; clear hv3; clear h2 h3 h4)
  go_end0
  exact ⟨rfl, v', by rw [← HV.out]; exact H.out.put HP.out.2.1 HP.out.1 HP.out.2.2⟩
theorem set_row {w : World} {s b n : Nat} {u : Value} {xs : List Value} (i : Nat) (x : Value) (hsb : s < b) (hR : RowAt w b 3 u n xs) : RowAt (w.setCell ⟨s, i, none⟩ x) b 3 u n xs := by
  refine ⟨hR.1, ?_⟩
  rcases hR.2 with h0 | ⟨g, off, cap, cur, rfl, hbg, hh, hrest⟩
  · exact .inl h0
  · exact .inr ⟨g, off, cap, cur, rfl, hbg, (Below.heap_setCell w ⟨s, i, none⟩ x g (show g ≠ s by omega)).trans hh, hrest⟩
theorem St.took {w0 w : World} {s k : Nat} {L L' Z : List Int} {v va v' : Value} (h : St w0 w s L k v Z va) (hr : RowAt w (s + 1) 3 v' L'.length (ints L')) (hv : v'.ownBlock = v.ownBlock) : St w0 ((w.setCell ⟨s, 0, none⟩ v').setCell ⟨s, 1, none⟩ (.int .i64 ((k : Int) + 1))) s L' (k + 1) v' Z va := by
  have n1 : ∀ i j : Nat, i ≠ j → (⟨s, i, none⟩ : Addr) ≠ ⟨s, j, none⟩ := fun i j hij e => hij (by injection e)
  refine ⟨?_, ?_, ?_, ?_, ?_, set_row _ _ (Nat.lt_succ_self s) (set_row _ _ (Nat.lt_succ_self s) hr), set_row _ _ (Nat.lt_succ_self s) (set_row _ _ (Nat.lt_succ_self s) h.ra), by rw [hv]; exact h.sp, (h.bl.setCell (Nat.le_refl s) _).setCell (Nat.le_refl s) _⟩
  · rw [World.cell?_setCell_other _ _ _ _ (n1 1 0 (by decide))]; exact World.cell?_setCell_same _ _ _ h.c0
  · rw [show (((k + 1 : Nat) : Int)) = (k : Int) + 1 from by omega]
    refine World.cell?_setCell_same _ _ _ (?_ : _ = some (.int .i64 k))
    rw [World.cell?_setCell_other _ _ _ _ (n1 0 1 (by decide))]; exact h.c1
  · rw [fz_set, fz_set]; exact h.f0
  · rw [fz_set, fz_set]; exact h.f1
  · rw [World.size_setCell, World.size_setCell]; exact h.sl
theorem take_nil (w : World) : Calls Try.prog 22 #[.pointer none] w fun e w' => e = .returned (.tuple #[.int .i64 0, .bool false]) ∧ w = w' := by
  go_enter Try.func22, Try.ntmps22
  go_wp2
  go_ret2
  exact ⟨rfl, rfl⟩
theorem left_nil (w : World) : Calls Try.prog 23 #[.pointer none] w fun e w' => e = .returned (.int .i64 0) ∧ w = w' := by
  go_enter Try.func23, Try.ntmps23
  go_wp2
  go_ret
  exact ⟨rfl, rfl⟩
theorem taken_nil (w : World) : Calls Try.prog 24 #[.pointer none] w fun e w' => e = .returned (.int .i64 0) ∧ w = w' := by
  go_enter Try.func24, Try.ntmps24
  go_wp2
  go_ret
  exact ⟨rfl, rfl⟩
theorem put_nil (A : Option Addr) (n cap : Nat) (w : World) : Calls Try.prog 21 #[.pointer none, .slice A n cap] w fun e w' => e = .returned (.tuple #[]) ∧ w = w' := by
  go_enter Try.func21, Try.ntmps21
  go_wp2
  go_end0
  exact ⟨rfl, rfl⟩
theorem take_none (c : Nat) (A : Option Addr) (cap : Nat) (w : World) (hc : w.cell? ⟨c, 0, none⟩ = some (.slice A 0 cap)) :
    Calls Try.prog 22 #[.pointer (some ⟨c, 0, none⟩)] w fun e w' => e = .returned (.tuple #[.int .i64 0, .bool false]) ∧ w = w' := by
  rcases A with _ | a
  · go_enter Try.func22, Try.ntmps22
    go_wp2
    go_ret2
    exact ⟨rfl, rfl⟩
  · go_enter Try.func22, Try.ntmps22
    go_wp2
    go_outline
    go_ret2
    exact ⟨rfl, rfl⟩
set_option maxHeartbeats 1000000 in
theorem take_some (c g off n cap : Nat) (x k : Int) (w : World) (hn : 0 < n) (hcap : 1 < cap) (hnc : n ≤ cap) (hcm : cap ≤ 9223372036854775807) (hk : 0 ≤ k) (hk1 : k ≤ 1000000) (hne : g ≠ c)
    (hc : w.cell? ⟨c, 0, none⟩ = some (.slice (some ⟨g, off, none⟩) n cap)) (hf : w.frozen? ⟨c, 0, none⟩ = false) (hc1 : w.cell? ⟨c, 1, none⟩ = some (.int .i64 k)) (hf1 : w.frozen? ⟨c, 1, none⟩ = false)
    (hx : w.cell? ⟨g, off, none⟩ = some (.int .i64 x)) :
    Calls Try.prog 22 #[.pointer (some ⟨c, 0, none⟩)] w fun e w' => e = .returned (.tuple #[.int .i64 x, .bool true]) ∧ (w.setCell ⟨c, 0, none⟩ (.slice (some ⟨g, off + 1, none⟩) (n - 1) (cap - 1))).setCell ⟨c, 1, none⟩ (.int .i64 (k + 1)) = w' := by
  have hl0 : (0 : Int) < (n : Int) := by omega
  have hz : ((n : Int) == 0) = false := by rw [beq_eq_false_iff_ne]; omega
  have hc0 : ¬ cap = 1 := by omega
  go_enter Try.func22, Try.ntmps22
  go_wp2
  go_ret2
  exact ⟨rfl, rfl⟩
set_option maxHeartbeats 1000000 in
theorem take_last (c g off : Nat) (x k : Int) (w : World) (hk : 0 ≤ k) (hk1 : k ≤ 1000000) (hne : g ≠ c)
    (hc : w.cell? ⟨c, 0, none⟩ = some (.slice (some ⟨g, off, none⟩) 1 1)) (hf : w.frozen? ⟨c, 0, none⟩ = false) (hc1 : w.cell? ⟨c, 1, none⟩ = some (.int .i64 k)) (hf1 : w.frozen? ⟨c, 1, none⟩ = false)
    (hx : w.cell? ⟨g, off, none⟩ = some (.int .i64 x)) :
    Calls Try.prog 22 #[.pointer (some ⟨c, 0, none⟩)] w fun e w' => e = .returned (.tuple #[.int .i64 x, .bool true]) ∧ (w.setCell ⟨c, 0, none⟩ (.slice (some ⟨g, off, none⟩) 0 0)).setCell ⟨c, 1, none⟩ (.int .i64 (k + 1)) = w' := by
  go_enter Try.func22, Try.ntmps22
  go_wp2
  go_ret2
  exact ⟨rfl, rfl⟩
theorem take_is {w0 w : World} {s k : Nat} {x : Int} {L Z : List Int} {v va : Value} (h : St w0 w s (x :: L) k v Z va) (hk : k ≤ 1000000) :
    Calls Try.prog 22 #[.pointer (some ⟨s, 0, none⟩)] w fun e w' => e = .returned (.tuple #[.int .i64 x, .bool true]) ∧ ∃ v', St w0 w' s L (k + 1) v' Z va := by
  have hrt := h.rt
  rcases hrt.2 with ⟨_, h0⟩ | ⟨g, off, cap, cur, rfl, hbg, hh, hnc, hcm, hsz, hcl⟩
  · exact absurd h0 (by simp)
  have hx : w.cell? ⟨g, off, none⟩ = some (.int .i64 x) := by
    rw [cell_of_row _ _ _ _ _ _ hh]
    exact hcl 0 _ rfl
  have hlen : (x :: L).length = L.length + 1 := rfl
  have hcm2 : cap ≤ 9223372036854775807 := by simp only [maxLen] at hcm; omega
  by_cases hc1 : cap = 1
  · have hL : L = [] := List.eq_nil_of_length_eq_zero (by omega)
    subst hL hc1
    refine (take_last s g off x k w (by omega) (by omega) (by omega) h.c0 h.f0 h.c1 h.f1 hx).mono ?_
    rintro e w1 ⟨rfl, rfl⟩
    exact ⟨rfl, .slice (some ⟨g, off, none⟩) 0 0, h.took ⟨rfl, .inr ⟨g, off, 0, cur, rfl, hbg, hh, Nat.le_refl _, Nat.zero_le _, by omega, fun j u hu => by simp [ints] at hu⟩⟩ rfl⟩
  · refine (take_some s g off (x :: L).length cap x k w (by omega) (by omega) hnc hcm2 (by omega) (by omega) (by omega) h.c0 h.f0 h.c1 h.f1 hx).mono ?_
    rintro e w1 ⟨rfl, rfl⟩
    refine ⟨rfl, .slice (some ⟨g, off + 1, none⟩) L.length (cap - 1), h.took ⟨ints_len L, .inr ⟨g, off + 1, cap - 1, cur, rfl, hbg, hh, by omega, by omega, by omega, fun j u hu => ?_⟩⟩ rfl⟩
    rw [Nat.add_right_comm]
    exact hcl (j + 1) u hu
theorem take_end {w0 w : World} {s k : Nat} {Z : List Int} {v va : Value} (h : St w0 w s [] k v Z va) :
    Calls Try.prog 22 #[.pointer (some ⟨s, 0, none⟩)] w fun e w' => e = .returned (.tuple #[.int .i64 0, .bool false]) ∧ w = w' := by
  obtain ⟨A, c, hv⟩ := h.rt.shape
  exact take_none s A c w (by rw [h.c0, hv]; rfl)
theorem left_is {w0 w : World} {s k : Nat} {L Z : List Int} {v va : Value} (h : St w0 w s L k v Z va) : Calls Try.prog 23 #[.pointer (some ⟨s, 0, none⟩)] w fun e w' => e = .returned (.int .i64 L.length) ∧ w = w' := by
  obtain ⟨A, c, hv⟩ := h.rt.shape
  have hc := h.c0
  rw [hv] at hc
  clear h hv
  generalize L.length = n at *
  go_enter Try.func23, Try.ntmps23
  go_wp2
  go_ret
  exact ⟨rfl, rfl⟩
theorem taken_is {w0 w : World} {s k : Nat} {L Z : List Int} {v va : Value} (h : St w0 w s L k v Z va) : Calls Try.prog 24 #[.pointer (some ⟨s, 0, none⟩)] w fun e w' => e = .returned (.int .i64 k) ∧ w = w' := by
  have hc := h.c1
  clear h
  go_enter Try.func24, Try.ntmps24
  go_wp2
  go_ret
  exact ⟨rfl, rfl⟩
end Go.Proofs.Ytdjdpbgemdmpiaa

/-
  The abstract pool: a cell's last order.
-/
import Derived.Test.YtnhmdaoghcfghaaRows
import Derived.Test.YtnhmdaoghcfghaaKit
import Derived.Test.YtnhmdaoghcfghaaApp
import Derived.Test.YtnhmdaoghcfghaaQuiet
import Derived.Test.YtnhmdaoghcfghaaTrM
import Derived.Test.YtnhmdaoghcfghaaTrS
import Derived.Test.YtnhmdaoghcfghaaTrF
import Derived.Test.YtnhmdaoghcfghaaTrG
import Derived.RangeFuncNested
import Derived.RangeFuncBound
import Derived.RangeFuncCalls
import Derived.RangeFuncLeaves
import Derived.Shelf.Abstract
import Derived.Shelf.RegionOpen
import Derived.WalkKit
import Derived.OwnWalkIn
import Derived.TacticsInMore
import Derived.LoopNIn
import Derived.LoopIn
import Derived.Lib.Hide
namespace Go.Proofs.Ytnhmdaoghcfghaa
open Go.RowKit Go.Shelf
attribute [local go_sem] Oper.semAt_some
def z0 : Ord := ⟨0, 0, 0, 0, 0, 0, 0, 0, 0, 0, false, false, 0⟩
def bwf (os : List Ord) (j : Nat) : Nat × Ord := (os.length - 1 - j, (os[os.length - 1 - j]?).getD z0)
def uptoB (os : List Ord) (k : Nat) : List (Nat × Ord) := (List.range k).map (bwf os)
theorem uptoB_succ (os : List Ord) (k : Nat) : uptoB os (k + 1) = uptoB os k ++ [bwf os k] := by simp [uptoB, List.range_succ]
theorem uptoB_length (os : List Ord) (k : Nat) : (uptoB os k).length = k := by simp [uptoB]
theorem bwf_at (os : List Ord) (q : Nat) (o : Ord) (h : os[q]? = some o) : bwf os (os.length - (q + 1)) = (q, o) := by
  have hq := (List.getElem?_eq_some_iff.1 h).1
  unfold bwf
  rw [show os.length - 1 - (os.length - (q + 1)) = q from by omega, h]
  rfl
set_option maxRecDepth 100000 in
set_option maxHeartbeats 4000000 in
/-- The library's iterator, from the last element on. -/
theorem bw1_in (F : Fence) (n : Nat) (h41 : F.fn 41) (hro : F.round = none) (hn : 1 ≤ n) (l Bs n₀ g cap : Nat) (os : List Ord) (hl : os.length ≤ 1000) (hg : g < n₀) (hB : Bs < n₀) (J Jx : List (Nat × Ord) → World → Prop)
    (hY : ∀ pre x W, J pre W → pre.length < os.length → YieldAt F (n - 1) Try.prog l ((fun x : Nat × Ord => #[Value.int .i64 (x.1 : Int), .agg #[.int .i64 x.2.c, .int .i64 x.2.g, .int .i64 x.2.n, .int .i64 x.2.s, .int .i64 x.2.p, .int .i64 x.2.l, .int .i64 x.2.u, .int .i64 x.2.q, .int .i64 x.2.lf, .int .i64 x.2.fl, .bool x.2.ak, .bool x.2.rs, .int .i64 x.2.en]]) x) W fun e W' =>
      (e = .returned (.bool true) ∧ J (pre ++ [x]) W' ∧ Below n₀ W W') ∨ (e = .returned (.bool false) ∧ Jx (pre ++ [x]) W'))
    (W : World) (hBs : W.cell? ⟨Bs, 0, none⟩ = some (.slice (some ⟨g, 0, none⟩) os.length cap)) (hc : ∀ (k : Nat) (o : Ord), os[k]? = some o → ∀ (j : Nat) (u : Value), j < 13 → (oc o)[j]? = some u → W.cell? ⟨g, k * 13 + j, none⟩ = some u) (h0 : J [] W) :
    CallsIn F n Try.prog 41 #[.func (.yield l) #[] #[], .pointer (some ⟨Bs, 0, none⟩)] W fun e W' => (∃ v, e = .returned v) ∧
      ((∃ ys, ys = uptoB os os.length ∧ J ys W') ∨ (∃ pre, (∃ k, k ≤ os.length ∧ pre = uptoB os k) ∧ Jx pre W')) := by
  have HC := Lib.hid hc
  have HY := Lib.hid hY
  have HBS := Lib.hid hBs
  clear hc hY
  refine callsIn_of_wp Try.func41 rfl h41 ?_ hro
  simp only [Try.ntmps41, List.size_toArray, List.length_cons, List.length_nil, Nat.reduceAdd, Nat.reduceSub, Array.replicate_succ, Array.replicate_zero, List.push_toArray, List.append_toArray, List.nil_append, List.cons_append]
  have l2 : (os.length : Int) ≤ 1000 := by omega
  gi_wp2
  clear hBs
  gi_loopw [3] (fun i wr => ∃ (r : Nat) (x : Int), r ≤ os.length ∧ x = (r : Int) - 1 ∧ i = .int .i64 x ∧ J (uptoB os (os.length - r)) wr ∧ Below n₀ W wr)
    (fun i _ => (intOf i + 1).toNat)
  case atStart => exact ⟨os.length, _, Nat.le_refl _, rfl, by go_num, by rw [Nat.sub_self]; exact h0, Below.refl _ _⟩
  case round =>
    obtain ⟨r, x, hr, hx, rfl, hJs, hnx⟩ := hrel
    rcases r with _ | q
    · obtain rfl : x = -1 := by omega
      clear hx
      gi_wp2
      go_end0
      exact ⟨⟨_, rfl⟩, .inl ⟨_, rfl, hJs⟩⟩
    · obtain rfl : x = (q : Int) := by omega
      clear hx
      have hq : q < os.length := by omega
      obtain ⟨o, ho⟩ : ∃ o, os[q]? = some o := ⟨_, List.getElem?_eq_getElem hq⟩
      obtain ⟨fn, tmps, assign, body, hy, hR⟩ := HY.out _ (q, o) wr hJs (by rw [uptoB_length]; omega)
      dsimp only at hy
      have hbx := (hnx.cell (p := ⟨Bs, 0, none⟩) hB).trans HBS.out
      have c0 : wr.cell? ⟨g, q * 13, none⟩ = some (.int .i64 o.c) := (hnx.cell (p := ⟨g, q * 13, none⟩) hg).trans (HC.out q o ho 0 _ (by omega) rfl)
      have c1 : wr.cell? ⟨g, q * 13 + 1, none⟩ = some (.int .i64 o.g) := (hnx.cell (p := ⟨g, q * 13 + 1, none⟩) hg).trans (HC.out q o ho 1 _ (by omega) rfl)
      have c2 : wr.cell? ⟨g, q * 13 + 2, none⟩ = some (.int .i64 o.n) := (hnx.cell (p := ⟨g, q * 13 + 2, none⟩) hg).trans (HC.out q o ho 2 _ (by omega) rfl)
      have c3 : wr.cell? ⟨g, q * 13 + 3, none⟩ = some (.int .i64 o.s) := (hnx.cell (p := ⟨g, q * 13 + 3, none⟩) hg).trans (HC.out q o ho 3 _ (by omega) rfl)
      have c4 : wr.cell? ⟨g, q * 13 + 4, none⟩ = some (.int .i64 o.p) := (hnx.cell (p := ⟨g, q * 13 + 4, none⟩) hg).trans (HC.out q o ho 4 _ (by omega) rfl)
      have c5 : wr.cell? ⟨g, q * 13 + 5, none⟩ = some (.int .i64 o.l) := (hnx.cell (p := ⟨g, q * 13 + 5, none⟩) hg).trans (HC.out q o ho 5 _ (by omega) rfl)
      have c6 : wr.cell? ⟨g, q * 13 + 6, none⟩ = some (.int .i64 o.u) := (hnx.cell (p := ⟨g, q * 13 + 6, none⟩) hg).trans (HC.out q o ho 6 _ (by omega) rfl)
      have c7 : wr.cell? ⟨g, q * 13 + 7, none⟩ = some (.int .i64 o.q) := (hnx.cell (p := ⟨g, q * 13 + 7, none⟩) hg).trans (HC.out q o ho 7 _ (by omega) rfl)
      have c8 : wr.cell? ⟨g, q * 13 + 8, none⟩ = some (.int .i64 o.lf) := (hnx.cell (p := ⟨g, q * 13 + 8, none⟩) hg).trans (HC.out q o ho 8 _ (by omega) rfl)
      have c9 : wr.cell? ⟨g, q * 13 + 9, none⟩ = some (.int .i64 o.fl) := (hnx.cell (p := ⟨g, q * 13 + 9, none⟩) hg).trans (HC.out q o ho 9 _ (by omega) rfl)
      have c10 : wr.cell? ⟨g, q * 13 + 10, none⟩ = some (.bool o.ak) := (hnx.cell (p := ⟨g, q * 13 + 10, none⟩) hg).trans (HC.out q o ho 10 _ (by omega) rfl)
      have c11 : wr.cell? ⟨g, q * 13 + 11, none⟩ = some (.bool o.rs) := (hnx.cell (p := ⟨g, q * 13 + 11, none⟩) hg).trans (HC.out q o ho 11 _ (by omega) rfl)
      have c12 : wr.cell? ⟨g, q * 13 + 12, none⟩ = some (.int .i64 o.en) := (hnx.cell (p := ⟨g, q * 13 + 12, none⟩) hg).trans (HC.out q o ho 12 _ (by omega) rfl)
      have q0 : (0 : Int) ≤ (q : Int) := by omega
      have q1 : (q : Int) < (os.length : Int) := by omega
      have hR := Lib.hid hR
      have hsn : uptoB os (os.length - q) = uptoB os (os.length - (q + 1)) ++ [(q, o)] := by
        rw [show os.length - q = os.length - (q + 1) + 1 from by omega, uptoB_succ, bwf_at os q o ho]
      have HSN := Lib.hid hsn
      clear hsn ho
      gi_wp2
      refine hR.out.mono ?_
      rintro e W3 (⟨rfl, hJ3, hk3⟩ | ⟨rfl, hJx3⟩)
      · gi_wp2
        go_roundw
        case rel => exact ⟨q, _, by omega, rfl, by go_num, by rw [HSN.out]; exact hJ3, hnx.trans hk3⟩
        case measure => first | (simp [intOf]; omega) | simp [intOf]
      · gi_wp2
        refine bodyPost_ret (results_none rfl _ _ _) rfl ?_
        exact ⟨⟨_, rfl⟩, .inr ⟨_, ⟨os.length - q, by omega, HSN.out.symm⟩, hJx3⟩⟩
set_option maxHeartbeats 1000000 in
theorem bw1_nil_in (F : Fence) (n : Nat) (h41 : F.fn 41) (hro : F.round = none) (l Bs : Nat) (cap : Nat) (J : List (Nat × Ord) → World → Prop) (W : World) (hBs : W.cell? ⟨Bs, 0, none⟩ = some (.slice none 0 cap)) (h0 : J [] W) :
    CallsIn F n Try.prog 41 #[.func (.yield l) #[] #[], .pointer (some ⟨Bs, 0, none⟩)] W fun e W' => (∃ v, e = .returned v) ∧ J [] W' := by
  refine callsIn_of_wp Try.func41 rfl h41 ?_ hro
  simp only [Try.ntmps41, List.size_toArray, List.length_cons, List.length_nil, Nat.reduceAdd, Nat.reduceSub, Array.replicate_succ, Array.replicate_zero, List.push_toArray, List.append_toArray, List.nil_append, List.cons_append]
  gi_wp2
  gi_loopw [3] (fun i wr => i = .int .i64 (-1) ∧ J [] wr) (fun _ _ => 0)
  case atStart => exact ⟨rfl, h0⟩
  case round =>
    obtain ⟨rfl, hJs⟩ := hrel
    gi_wp2
    go_end0
    exact ⟨⟨_, rfl⟩, hJs⟩
set_option maxHeartbeats 1000000 in
theorem bw_in (F : Fence) (n : Nat) (h39 : F.fn 39) (hro : F.round = none) (a : Option Addr) (len cap : Nat) (w : World) :
    CallsIn F n Try.prog 39 #[.slice a len cap] w fun e w' => e = .returned (.func (.func 41) #[] #[.pointer (some ⟨w.heap.size, 0, none⟩)]) ∧ w' = w.alloc (.cells #[.slice a len cap] 35) := by
  refine callsIn_of_wp Try.func39 rfl h39 ?_ hro
  simp only [Try.ntmps39, List.size_toArray, List.length_cons, List.length_nil, Nat.reduceAdd, Nat.reduceSub, Array.replicate_succ, Array.replicate_zero, List.push_toArray, List.append_toArray, List.nil_append, List.cons_append]
  gi_wp2
  go_ret
  exact ⟨rfl, rfl⟩
/-- The value that Backward hands back. -/
theorem bw_stops (F : Fence) (n : Nat) (h41 : F.fn 41) (hro : F.round = none) (hn : 1 ≤ n) (Bs n₀ K cap : Nat) (A : Option Addr) (os : List Ord) (hl : os.length ≤ 1000) (w : World) (hBs : Bs < n₀) (hn₀ : n₀ ≤ w.heap.size)
    (hc : w.cell? ⟨Bs, 0, none⟩ = some (.slice A os.length cap)) (hR : w.ownsRow K 44 13 (.slice A os.length cap) os.length (ov os)) (hA : ∀ g, A = some ⟨g, 0, none⟩ → g < n₀) :
    SeqStopsK F n Try.prog 41 #[.pointer (some ⟨Bs, 0, none⟩)] (fun x : Nat × Ord => #[Value.int .i64 (x.1 : Int), .agg #[.int .i64 x.2.c, .int .i64 x.2.g, .int .i64 x.2.n, .int .i64 x.2.s, .int .i64 x.2.p, .int .i64 x.2.l, .int .i64 x.2.u, .int .i64 x.2.q, .int .i64 x.2.lf, .int .i64 x.2.fl, .bool x.2.ak, .bool x.2.rs, .int .i64 x.2.en]]) (Below n₀) (fun ys => ys = uptoB os os.length)
      (fun pre => ∃ k, k ≤ os.length ∧ pre = uptoB os k) os.length w := fun l J Jx W hW _ _ hY h0 => by
  have hc' := (hW.cell (p := ⟨Bs, 0, none⟩) (Nat.lt_of_lt_of_le hBs hn₀)).trans hc
  have hR' := row_kept hR hW
  rcases Nat.eq_zero_or_pos os.length with h00 | hpos
  · rcases hR'.2 with ⟨hv, _⟩ | ⟨g, cp, cur, hv, _⟩
    · injection hv with e1 e2 e3
      subst e1
      rw [h00] at hc' ⊢
      exact (bw1_nil_in F n h41 hro l Bs cap J W hc' h0).mono fun e W' ⟨he, hj⟩ => ⟨he, .inl ⟨_, rfl, hj⟩⟩
    · injection hv with e1 e2 e3
      subst e1
      exact bw1_in F n h41 hro hn l Bs n₀ g cap os hl (hA g rfl) hBs J Jx hY W hc' (fun k o ho j u hj hu => row_cell hR' ho rfl hj hu) h0
  · obtain ⟨g, cp, hv, _, _⟩ := World.ownsRow.form hR' hpos
    injection hv with e1 e2 e3
    subst e1
    exact bw1_in F n h41 hro hn l Bs n₀ g cap os hl (hA g rfl) hBs J Jx hY W hc' (fun k o ho j u hj hu => row_cell hR' ho rfl hj hu) h0
/-- What a cell's last order is. -/
def LastIs (os : List Ord) (cl : Int) (x : Ord) : Prop :=
  (∃ q : Nat, os[q]? = some x ∧ x.c = cl ∧ ∀ (k : Nat) (o : Ord), q < k → os[k]? = some o → o.c ≠ cl) ∨
  ((∀ (k : Nat) (o : Ord), os[k]? = some o → o.c ≠ cl) ∧ x = { z0 with c := cl, en := 8 })
/-- A block, whole. -/
def Whole (W : World) (B : Nat) (cs : List Value) (t : TypeId) : Prop := W.heap[B]? = some (.cells cs.toArray t (0, 0))
theorem whole_own {β : Type} (B : Nat) (t : TypeId) (f : β → List Value) : Own (fun s W => Whole W B (f s) t) := fun s X Y row hs hg hrow =>
  (grownBy_keeps_cells hg hrow hs rfl).trans hs
theorem Whole.alloc {W : World} {B : Nat} {cs : List Value} {t : TypeId} (h : Whole W B cs t) (o : Obj) : Whole (W.alloc o) B cs t := (Below.heap_alloc W o B (Array.getElem?_eq_some_iff.1 h).1).trans h
theorem Whole.cell {W : World} {B : Nat} {cs : List Value} {t : TypeId} (h : Whole W B cs t) (j : Nat) (u : Value) (hu : cs[j]? = some u) : W.cell? ⟨B, j, none⟩ = some u := Bl.cell ⟨t, h⟩ j u hu
theorem Whole.frz {W : World} {B : Nat} {cs : List Value} {t : TypeId} (h : Whole W B cs t) (j : Nat) : W.frozen? ⟨B, j, none⟩ = false := Bl.frz ⟨t, h⟩ j
theorem setCells_row (t : TypeId) (B : Nat) : ∀ (vs pre cs0 : List Value) (w : World), w.heap[B]? = some (.cells (pre ++ cs0).toArray t (0, 0)) → vs.length = cs0.length → (w.setCells B pre.length vs).heap[B]? = some (.cells (pre ++ vs).toArray t (0, 0))
  | [], pre, cs0, w, h, hl => by
    have : cs0 = [] := List.length_eq_zero_iff.1 hl.symm
    subst this
    exact h
  | v :: r, pre, cs0, w, h, hl => by
    obtain ⟨c, cs', rfl⟩ : ∃ c cs', cs0 = c :: cs' := List.exists_cons_of_ne_nil (by intro e; rw [e] at hl; cases hl)
    have h1 := blk_set h pre.length v
    have h2 : (pre ++ c :: cs').toArray.setIfInBounds pre.length v = ((pre ++ [v]) ++ cs').toArray := by
      rw [List.setIfInBounds_toArray, List.set_append_right _ _ (Nat.le_refl _), Nat.sub_self, List.set_cons_zero, List.append_assoc]
      rfl
    rw [h2] at h1
    have h3 := setCells_row t B r (pre ++ [v]) cs' _ h1 (by simpa using hl)
    rw [List.length_append] at h3
    rw [show pre ++ v :: r = pre ++ [v] ++ r from by rw [List.append_assoc]; rfl]
    exact h3
theorem setCells_below {b B : Nat} {a w : World} (h : Below b a w) (hB : b ≤ B) : ∀ (vs : List Value) (o : Nat), Below b a (w.setCells B o vs)
  | [], _ => h
  | v :: r, o => setCells_below (h.setCell (p := ⟨B, o, none⟩) hB v) hB r (o + 1)
theorem setCells_keeps (B : Nat) (X : Nat) : ∀ (vs : List Value) (o : Nat) (w : World), KeepsOthers w (w.setCells X o vs)
  | [], _, w => KeepsOthers.refl w
  | v :: r, o, w => (KeepsOthers.setCell w ⟨X, o, none⟩ v).trans (setCells_keeps B X r (o + 1) _)
theorem last_of (os : List Ord) (cl : Int) (k : Nat) (hk : k ≤ os.length) (ini : List (Nat × Ord)) (l : Nat × Ord) (he : uptoB os k = ini ++ [l]) (hi : ∀ y ∈ ini, y.2.c ≠ cl) (hc : l.2.c = cl) : LastIs os cl l.2 := by
  obtain ⟨k', rfl⟩ : ∃ k', k = k' + 1 := by
    cases k with
    | zero => simp [uptoB] at he
    | succ k' => exact ⟨k', rfl⟩
  rw [uptoB_succ] at he
  obtain ⟨rfl, e5⟩ := List.append_inj' he rfl
  obtain rfl : bwf os k' = l := by simpa using e5
  have hq : os.length - 1 - k' < os.length := by omega
  have ho : os[os.length - 1 - k']? = some (bwf os k').2 := by
    unfold bwf
    rw [List.getElem?_eq_getElem hq]
    rfl
  refine .inl ⟨os.length - 1 - k', ho, hc, fun j o hj hjo => ?_⟩
  have hjl := (List.getElem?_eq_some_iff.1 hjo).1
  have := hi (bwf os (os.length - 1 - j)) (by unfold uptoB; rw [List.mem_map]; exact ⟨_, List.mem_range.2 (by omega), rfl⟩)
  have h9 := bwf_at os j o hjo
  rw [show os.length - (j + 1) = os.length - 1 - j from by omega] at h9
  rw [h9] at this
  exact this
theorem last_none (os : List Ord) (cl : Int) (h : ∀ y ∈ uptoB os os.length, y.2.c ≠ cl) (k : Nat) (o : Ord) (ho : os[k]? = some o) : o.c ≠ cl := by
  have hk := (List.getElem?_eq_some_iff.1 ho).1
  have h9 := bwf_at os k o ho
  have := h (bwf os (os.length - (k + 1))) (by unfold uptoB; rw [List.mem_map]; exact ⟨_, List.mem_range.2 (by omega), rfl⟩)
  rw [h9] at this
  exact this
set_option maxRecDepth 100000 in
set_option maxHeartbeats 8000000 in
theorem last_in (F : Fence) (n' : Nat) (h32 : F.fn 32) (h39 : F.fn 39) (h41 : F.fn 41) (hro : F.round = none) (hn : 6 ≤ n') (Fx : Nat → Option Obj → Prop) (w wr : World) (B K : Nat) (p c n b r f g now : Int) (v : Value) (os : List Ord) (cl : Int) (h : MS Fx w wr B K p c n b r f g v os now) (hl : os.length ≤ 1000) :
    CallsIn F n' Try.prog 32 #[.pointer (some ⟨B, 0, none⟩), .int .i64 cl] wr fun e W' => (∃ x, e = .returned (.agg #[.int .i64 x.c, .int .i64 x.g, .int .i64 x.n, .int .i64 x.s, .int .i64 x.p, .int .i64 x.l, .int .i64 x.u, .int .i64 x.q, .int .i64 x.lf, .int .i64 x.fl, .bool x.ak, .bool x.rs, .int .i64 x.en]) ∧ LastIs os cl x) ∧ Below wr.heap.size wr W' := by
  have h1 : 1 ≤ n' := by omega
  obtain ⟨A, cp, rfl⟩ := own_shape h.row
  have b7 := h.blk.cell 7 _ rfl
  have hBl := h.blk.lt
  refine callsIn_of_wp_marks Try.func32 rfl h32 ?_ hro
  simp only [Try.ntmps32, List.size_toArray, List.length_cons, List.length_nil, Nat.reduceAdd, Nat.reduceSub, Array.replicate_succ, Array.replicate_zero, List.push_toArray, List.append_toArray, List.nil_append, List.cons_append]
  gi_wp2_with (gi_at_call 39; refine (bw_in F (n' - 1) h39 hro _ _ _ _).mono ?_; rintro e w' ⟨rfl, rfl⟩)
  have bC : Whole (((wr.alloc (.cells #[.int .i64 cl] 3)).alloc (.cells (List.toArray [.int .i64 0, .int .i64 0, .int .i64 0, .int .i64 0, .int .i64 0, .int .i64 0, .int .i64 0, .int .i64 0, .int .i64 0, .int .i64 0, .bool false, .bool false, .int .i64 0]) 44)).alloc (.cells #[.slice A os.length cp] 35)) wr.heap.size [.int .i64 cl] 3 := ((show Whole _ _ _ _ from heap_alloc_new wr (.cells #[.int .i64 cl] 3)).alloc _).alloc _
  have bR : Whole (((wr.alloc (.cells #[.int .i64 cl] 3)).alloc (.cells (List.toArray [.int .i64 0, .int .i64 0, .int .i64 0, .int .i64 0, .int .i64 0, .int .i64 0, .int .i64 0, .int .i64 0, .int .i64 0, .int .i64 0, .bool false, .bool false, .int .i64 0]) 44)).alloc (.cells #[.slice A os.length cp] 35)) (wr.heap.size + 1) [.int .i64 0, .int .i64 0, .int .i64 0, .int .i64 0, .int .i64 0, .int .i64 0, .int .i64 0, .int .i64 0, .int .i64 0, .int .i64 0, .bool false, .bool false, .int .i64 0] 44 := by
    have h2 : Whole ((wr.alloc (.cells #[.int .i64 cl] 3)).alloc (.cells (List.toArray [.int .i64 0, .int .i64 0, .int .i64 0, .int .i64 0, .int .i64 0, .int .i64 0, .int .i64 0, .int .i64 0, .int .i64 0, .int .i64 0, .bool false, .bool false, .int .i64 0]) 44)) (wr.alloc (.cells #[.int .i64 cl] 3)).heap.size [.int .i64 0, .int .i64 0, .int .i64 0, .int .i64 0, .int .i64 0, .int .i64 0, .int .i64 0, .int .i64 0, .int .i64 0, .int .i64 0, .bool false, .bool false, .int .i64 0] 44 := heap_alloc_new (wr.alloc (.cells #[.int .i64 cl] 3)) (.cells (List.toArray [.int .i64 0, .int .i64 0, .int .i64 0, .int .i64 0, .int .i64 0, .int .i64 0, .int .i64 0, .int .i64 0, .int .i64 0, .int .i64 0, .bool false, .bool false, .int .i64 0]) 44)
    rw [World.size_alloc] at h2
    exact h2.alloc _
  have cX : (((wr.alloc (.cells #[.int .i64 cl] 3)).alloc (.cells (List.toArray [.int .i64 0, .int .i64 0, .int .i64 0, .int .i64 0, .int .i64 0, .int .i64 0, .int .i64 0, .int .i64 0, .int .i64 0, .int .i64 0, .bool false, .bool false, .int .i64 0]) 44)).alloc (.cells #[.slice A os.length cp] 35)).cell? ⟨wr.heap.size + 1 + 1, 0, none⟩ = some (.slice A os.length cp) := by
    have h2 := (Boxed.new ((wr.alloc (.cells #[.int .i64 cl] 3)).alloc (.cells (List.toArray [.int .i64 0, .int .i64 0, .int .i64 0, .int .i64 0, .int .i64 0, .int .i64 0, .int .i64 0, .int .i64 0, .int .i64 0, .int .i64 0, .bool false, .bool false, .int .i64 0]) 44)) 35 (.slice A os.length cp)).cell
    rw [World.size_alloc, World.size_alloc] at h2
    exact h2
  have hB0 : Below wr.heap.size wr (((wr.alloc (.cells #[.int .i64 cl] 3)).alloc (.cells (List.toArray [.int .i64 0, .int .i64 0, .int .i64 0, .int .i64 0, .int .i64 0, .int .i64 0, .int .i64 0, .int .i64 0, .int .i64 0, .int .i64 0, .bool false, .bool false, .int .i64 0]) 44)).alloc (.cells #[.slice A os.length cp] 35)) := by go_grown
  have hsz : (((wr.alloc (.cells #[.int .i64 cl] 3)).alloc (.cells (List.toArray [.int .i64 0, .int .i64 0, .int .i64 0, .int .i64 0, .int .i64 0, .int .i64 0, .int .i64 0, .int .i64 0, .int .i64 0, .int .i64 0, .bool false, .bool false, .int .i64 0]) 44)).alloc (.cells #[.slice A os.length cp] 35)).heap.size = wr.heap.size + 3 := by simp
  generalize (((wr.alloc (.cells #[.int .i64 cl] 3)).alloc (.cells (List.toArray [.int .i64 0, .int .i64 0, .int .i64 0, .int .i64 0, .int .i64 0, .int .i64 0, .int .i64 0, .int .i64 0, .int .i64 0, .int .i64 0, .bool false, .bool false, .int .i64 0]) 44)).alloc (.cells #[.slice A os.length cp] 35)) = W0 at *
  have hRow := row_kept h.row hB0
  have hlt := h.row.lt
  refine wpIn_rangeFunc_ownH hro h1 (gf := 41) (lb := #[.pointer (some ⟨wr.heap.size + 1 + 1, 0, none⟩)]) rfl h41 (enters_of Try.func41 (by kernel_rfl) rfl)
    (bw_stops F (n' - 1) h41 hro (by omega) (wr.heap.size + 1 + 1) W0.heap.size K cp A os hl W0 (by omega) (Nat.le_refl _) cX hRow (fun g hg => by subst hg; have := (hlt g rfl).2; omega)) belowK_t (belowK_b (Nat.le_refl _)) (Below.refl _ _) (fun _ => rfl)
    (fun pre W => ((∀ y ∈ pre, y.2.c ≠ cl) ∧ Whole W wr.heap.size [.int .i64 cl] 3 ∧ Whole W (wr.heap.size + 1) [.int .i64 0, .int .i64 0, .int .i64 0, .int .i64 0, .int .i64 0, .int .i64 0, .int .i64 0, .int .i64 0, .int .i64 0, .int .i64 0, .bool false, .bool false, .int .i64 0] 44) ∧ Below W0.heap.size W0 W)
    (fun cd pre W => (cd = .ret ∧ ∃ ini last, pre = ini ++ [last] ∧ (∀ y ∈ ini, y.2.c ≠ cl) ∧ last.2.c = cl ∧ Whole W (wr.heap.size + 1) (oc last.2) 44) ∧ Below wr.heap.size wr W)
    (OwnFrom.and (Own.from (fun s A B row hs hg hr => ⟨hs.1, whole_own wr.heap.size 3 (fun (_ : Unit) => [.int .i64 cl]) () A B row hs.2.1 hg hr, whole_own (wr.heap.size + 1) 44 (fun (_ : Unit) => [.int .i64 0, .int .i64 0, .int .i64 0, .int .i64 0, .int .i64 0, .int .i64 0, .int .i64 0, .int .i64 0, .int .i64 0, .int .i64 0, .bool false, .bool false, .int .i64 0]) () A B row hs.2.2 hg hr⟩) _) (ownFrom_below (Nat.le_refl _) (Nat.le_refl _)))
    (fun cd => OwnFrom.and (Own.from (fun s A B row hs hg hr => by obtain ⟨hc1, ini, last, e1, e2, e3, e4⟩ := hs; exact ⟨hc1, ini, last, e1, e2, e3, whole_own (wr.heap.size + 1) 44 (fun (_ : Unit) => oc last.2) () A B row e4 hg hr⟩) _) (ownFrom_below (Nat.le_refl _) (by omega)))
    ⟨⟨by simp, bC, bR⟩, Below.refl _ _⟩
    (fun x a' W => ∃ Bx, wr.heap.size + 1 < Bx ∧ Whole W Bx [.int .i64 x.2.c, .int .i64 x.2.g, .int .i64 x.2.n, .int .i64 x.2.s, .int .i64 x.2.p, .int .i64 x.2.l, .int .i64 x.2.u, .int .i64 x.2.q, .int .i64 x.2.lf, .int .i64 x.2.fl, .bool x.2.ak, .bool x.2.rs, .int .i64 x.2.en] 44 ∧ a' = { tmps := #[.pointer (some ⟨B, 0, none⟩), .int .i64 cl, undef, .pointer (some ⟨wr.heap.size, 0, none⟩), .pointer (some ⟨wr.heap.size + 1, 0, none⟩), undef, .pointer (some ⟨Bx, 0, none⟩), .pointer (some ⟨B, 0, none⟩), .pointer (some ⟨B, 0, none⟩), .pointer (some ⟨B, 7, none⟩), .slice A os.length cp, .func (.func 41) #[] #[.pointer (some ⟨wr.heap.size + 1 + 1, 0, none⟩)], .int .i64 (x.1 : Int), .agg #[.int .i64 x.2.c, .int .i64 x.2.g, .int .i64 x.2.n, .int .i64 x.2.s, .int .i64 x.2.p, .int .i64 x.2.l, .int .i64 x.2.u, .int .i64 x.2.q, .int .i64 x.2.lf, .int .i64 x.2.fl, .bool x.2.ak, .bool x.2.rs, .int .i64 x.2.en], undef, undef, undef, undef, undef, undef, undef], defers := [] })
    (fun x a' _ X Y row hs hg hr => by obtain ⟨Bx, g1, g2, g3⟩ := hs; exact ⟨Bx, g1, whole_own Bx 44 (fun (_ : Unit) => [.int .i64 x.2.c, .int .i64 x.2.g, .int .i64 x.2.n, .int .i64 x.2.s, .int .i64 x.2.p, .int .i64 x.2.l, .int .i64 x.2.u, .int .i64 x.2.q, .int .i64 x.2.lf, .int .i64 x.2.fl, .bool x.2.ak, .bool x.2.rs, .int .i64 x.2.en]) () X Y row g2 hg (fun rr e => (hr rr e).2), g3⟩)
    ?assign ?body ?done ?stop
  case assign =>
    rintro l pre x W Kk ⟨⟨hp, bC1, bR1⟩, hB1⟩ hK
    gi_wp2
    exact hK _ _ ((KeepsOthers.alloc _ _).from _) ((Below.refl _ W).alloc hB1.size _) ⟨⟨hp, bC1.alloc _, bR1.alloc _⟩, hB1.alloc hB1.size _⟩ ⟨W.heap.size, (Array.getElem?_eq_some_iff.1 bR1).1, heap_alloc_new W _, rfl⟩
  case body =>
    rintro l pre x a' W hll _ ⟨⟨hp, bC1, bR1⟩, hB1⟩ ⟨Bx, hBx, bX, rfl⟩ hlt
    have k0 := bC1.cell 0 _ rfl
    have x0 := bX.cell 0 _ rfl
    have x1 := bX.cell 1 _ rfl
    have x2 := bX.cell 2 _ rfl
    have x3 := bX.cell 3 _ rfl
    have x4 := bX.cell 4 _ rfl
    have x5 := bX.cell 5 _ rfl
    have x6 := bX.cell 6 _ rfl
    have x7 := bX.cell 7 _ rfl
    have x8 := bX.cell 8 _ rfl
    have x9 := bX.cell 9 _ rfl
    have x10 := bX.cell 10 _ rfl
    have x11 := bX.cell 11 _ rfl
    have x12 := bX.cell 12 _ rfl
    by_cases hxc : x.2.c = cl
    · have e1 : (x.2.c == cl) = true := by simpa using hxc
      have HXC := Lib.hid hxc
      clear hxc
      have y0 := bR1.frz 0
      have r0 := bR1.cell 0 _ rfl
      have y1 := bR1.frz 1
      have r1 := bR1.cell 1 _ rfl
      have y2 := bR1.frz 2
      have r2 := bR1.cell 2 _ rfl
      have y3 := bR1.frz 3
      have r3 := bR1.cell 3 _ rfl
      have y4 := bR1.frz 4
      have r4 := bR1.cell 4 _ rfl
      have y5 := bR1.frz 5
      have r5 := bR1.cell 5 _ rfl
      have y6 := bR1.frz 6
      have r6 := bR1.cell 6 _ rfl
      have y7 := bR1.frz 7
      have r7 := bR1.cell 7 _ rfl
      have y8 := bR1.frz 8
      have r8 := bR1.cell 8 _ rfl
      have y9 := bR1.frz 9
      have r9 := bR1.cell 9 _ rfl
      have y10 := bR1.frz 10
      have r10 := bR1.cell 10 _ rfl
      have y11 := bR1.frz 11
      have r11 := bR1.cell 11 _ rfl
      have y12 := bR1.frz 12
      have r12 := bR1.cell 12 _ rfl
      gi_wp2
      have hw := setCells_row 44 (wr.heap.size + 1) (oc x.2) [] [.int .i64 0, .int .i64 0, .int .i64 0, .int .i64 0, .int .i64 0, .int .i64 0, .int .i64 0, .int .i64 0, .int .i64 0, .int .i64 0, .bool false, .bool false, .int .i64 0] W bR1 rfl
      have hkk := setCells_keeps 0 (wr.heap.size + 1) (oc x.2) 0 W
      have hbb := setCells_below (B := wr.heap.size + 1) (Below.step hB0 hB1) (Nat.le_succ _) (oc x.2) 0
      exact ⟨hkk.from _, ⟨rfl, pre, x, rfl, hp, HXC.out, hw⟩, hbb⟩
    · have e1 : (x.2.c == cl) = false := by simpa using hxc
      have HXC := Lib.hid hxc
      clear hxc
      gi_wp2
      exact ⟨KeepsFrom.refl _ _, Below.refl _ _, ⟨fun y hy => (List.mem_append.1 hy).elim (hp y) (fun e => by simp at e; subst e; exact HXC.out), bC1, bR1⟩, hB1⟩
  case done =>
    rintro D ys W hD rfl ⟨⟨hp, bC1, bR1⟩, hB1⟩ hK
    have k0 := bC1.cell 0 _ rfl
    have y0 := bR1.frz 0
    have r0 := bR1.cell 0 _ rfl
    have y1 := bR1.frz 1
    have r1 := bR1.cell 1 _ rfl
    have y2 := bR1.frz 2
    have r2 := bR1.cell 2 _ rfl
    have y3 := bR1.frz 3
    have r3 := bR1.cell 3 _ rfl
    have y4 := bR1.frz 4
    have r4 := bR1.cell 4 _ rfl
    have y5 := bR1.frz 5
    have r5 := bR1.cell 5 _ rfl
    have y6 := bR1.frz 6
    have r6 := bR1.cell 6 _ rfl
    have y7 := bR1.frz 7
    have r7 := bR1.cell 7 _ rfl
    have y8 := bR1.frz 8
    have r8 := bR1.cell 8 _ rfl
    have y9 := bR1.frz 9
    have r9 := bR1.cell 9 _ rfl
    have y10 := bR1.frz 10
    have r10 := bR1.cell 10 _ rfl
    have y11 := bR1.frz 11
    have r11 := bR1.cell 11 _ rfl
    have y12 := bR1.frz 12
    have r12 := bR1.cell 12 _ rfl
    gi_wp2
    have hw := setCells_row 44 (wr.heap.size + 1) [.int .i64 cl, .int .i64 0, .int .i64 0, .int .i64 0, .int .i64 0, .int .i64 0, .int .i64 0, .int .i64 0, .int .i64 0, .int .i64 0, .bool false, .bool false, .int .i64 8] [] [.int .i64 0, .int .i64 0, .int .i64 0, .int .i64 0, .int .i64 0, .int .i64 0, .int .i64 0, .int .i64 0, .int .i64 0, .int .i64 0, .bool false, .bool false, .int .i64 0] W bR1 rfl
    have hkk := setCells_keeps 0 (wr.heap.size + 1) [.int .i64 cl, .int .i64 0, .int .i64 0, .int .i64 0, .int .i64 0, .int .i64 0, .int .i64 0, .int .i64 0, .int .i64 0, .int .i64 0, .bool false, .bool false, .int .i64 8] 0 W
    have hbb := setCells_below (B := wr.heap.size + 1) (Below.step hB0 hB1) (Nat.le_succ _) [.int .i64 cl, .int .i64 0, .int .i64 0, .int .i64 0, .int .i64 0, .int .i64 0, .int .i64 0, .int .i64 0, .int .i64 0, .int .i64 0, .bool false, .bool false, .int .i64 8] 0
    have hK' := hkk.same D _ hK rfl
    refine ⟨by simp, .inl ⟨_, _, rfl, run_takeDeferred hK', ?_⟩⟩
    have hw2 := (World.putObj_heap_other (o := .deferred none) (show wr.heap.size + 1 ≠ D by omega)).trans hw
    exact ⟨_, results_cell_row rfl _ _ (wr.heap.size + 1) 44 _ (0, 0) _ rfl hw2 Try.underlying44 rfl (by kernel_rfl), ⟨{ z0 with c := cl, en := 8 }, rfl, .inr ⟨last_none os cl hp, rfl⟩⟩, hbb.trans (belowK_b (w := wr) (Nat.le_refl _) _ D _ _ (by omega) hK' rfl rfl)⟩
  case stop =>
    rintro D cd pre W hD ⟨k, hk, rfl⟩ ⟨⟨rfl, ini, last, e1, e2, e3, hw⟩, hB⟩ hK
    gi_wp2
    refine ⟨by simp, .inl ⟨_, _, rfl, run_takeDeferred hK, ?_⟩⟩
    have hw2 := (World.putObj_heap_other (o := .deferred none) (show wr.heap.size + 1 ≠ D by omega)).trans hw
    exact ⟨_, results_cell_row rfl _ _ (wr.heap.size + 1) 44 _ (0, 0) _ rfl hw2 Try.underlying44 rfl (by kernel_rfl), ⟨last.2, rfl, last_of os cl k hk ini last e1 e2 e3⟩, hB.trans (belowK_b (w := wr) (Nat.le_refl _) W D _ _ (by omega) hK rfl rfl)⟩
theorem last_is (Fx : Nat → Option Obj → Prop) (w wr : World) (B K : Nat) (p c n b r f g now : Int) (v : Value) (os : List Ord) (cl : Int) (h : MS Fx w wr B K p c n b r f g v os now) (hl : os.length ≤ 1000) : Calls Try.prog 32 #[.pointer (some ⟨B, 0, none⟩), .int .i64 cl] wr fun e W' => (∃ x, e = .returned (.agg #[.int .i64 x.c, .int .i64 x.g, .int .i64 x.n, .int .i64 x.s, .int .i64 x.p, .int .i64 x.l, .int .i64 x.u, .int .i64 x.q, .int .i64 x.lf, .int .i64 x.fl, .bool x.ak, .bool x.rs, .int .i64 x.en]) ∧ LastIs os cl x) ∧ Below wr.heap.size wr W' :=
  callsIn_wide.1 (last_in Fence.wide 6 trivial trivial trivial rfl (by omega) Fx w wr B K p c n b r f g now v os cl h hl)
end Go.Proofs.Ytnhmdaoghcfghaa

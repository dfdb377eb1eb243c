/-
  terms.Better; what Levels sorts by; slices.SortFunc of a row of levels.
-/
import Derived.Test.YtafignfoejefjaaRows
import Derived.Test.YtafignfoejefjaaKit
import Derived.Test.YtafignfoejefjaaApp
import Derived.Test.YtafignfoejefjaaQuiet
import Derived.WalkKit
import Derived.ProofKit
import Derived.OpenShut
import Derived.ShutString
import Derived.Below
import Derived.Outline
import Derived.WalkLawsBesides
import Derived.WalkSpells
import Derived.Handy
import Derived.Deep.QuietTactic
import Derived.BigQuiet
import Derived.RegionTactic
import Derived.ChangeAlike
import Derived.Lib.Hide
import Derived.Laws.Rows
import Derived.Laws.Tables
import Derived.Laws.CopyOwn
import Derived.Laws.MakeOwn
import Derived.Laws.Entries
import Derived.Laws.OwnMore
import Derived.Deep.WholeRow
import Derived.Deep.LoopGhost
import Derived.Deep.AppendLies
import Derived.Deep.Draws
import Derived.Maps.AppendAt
import Derived.OwnWalk
import Derived.Deep.RegionHeld3
import Derived.Deep.Cut
import Derived.Deep.CutRange
import Derived.Deep.DeepCutAuto
import Derived.Deep.CutBlock
import Derived.Lib.SliceRun
import Derived.IntWalk
import Derived.Shelf.SlSortCmp.NoneTotal
import Derived.Test.YtafignfoejefjaaShelf
import Derived.Test.YtafignfoejefjaaBkM
import Derived.Test.YtafignfoejefjaaBkO
import Derived.Test.YtafignfoejefjaaBkP
namespace Go.Proofs.Ytafignfoejefjaa
open Go.ChangeShapes Go.WideShapes Go.ChangeAt Go.RowKit
theorem better_is (s x y : Int) (w : World) : Calls Try.prog 26 #[.int .i64 s, .int .i64 x, .int .i64 y] w fun e w' => e = .returned (.bool (bet s x y)) ∧ w = w' := by
  by_cases h : s = 0
  · subst h
    have hb : bet 0 x y = decide (y < x) := by unfold bet; simp
    have HB := Lib.hid hb
    clear hb
    go_enter Try.func26, Try.ntmps26
    go_wp2
    go_ret
    exact ⟨by rw [HB.out]; rfl, rfl⟩
  · have hb : bet s x y = decide (x < y) := by unfold bet; simp [h]
    have HB := Lib.hid hb
    have hs : (s == 0) = false := beq_eq_false_iff_ne.2 h
    clear hb h
    go_enter Try.func26, Try.ntmps26
    go_wp2
    go_ret
    exact ⟨by rw [HB.out]; rfl, rfl⟩
theorem better_v (s x y : Int) (b : Bool) (h : bet s x y = b) (w : World) : Calls Try.prog 26 #[.int .i64 s, .int .i64 x, .int .i64 y] w fun e w' => e = .returned (.bool b) ∧ w' = w :=
  (better_is s x y w).mono fun _ _ ⟨he, hw⟩ => ⟨by rw [he, h], hw.symm⟩
open Go.Sort in
set_option maxHeartbeats 1000000 in
theorem clos (s : Int) (x y : Lvl) (SB : Nat) (W : World) (hs : W.cell? ⟨SB, 0, none⟩ = some (.int .i64 s)) (hlt : SB < W.heap.size) : Calls Try.prog 25 #[.agg #[.int .i64 x.p, .int .i64 x.q, .int .i64 x.k], .agg #[.int .i64 y.p, .int .i64 y.q, .int .i64 y.k], .pointer (some ⟨SB, 0, none⟩)] W fun e w' => e = .returned (.int .i64 (cf s x y)) ∧ ∃ q os', w' = grow (W.drewN q) os' := by
  rcases h1 : bet s x.p y.p with _ | _
  · rcases h2 : bet s y.p x.p with _ | _
    · have hc : cf s x y = 0 := by unfold cf; simp [h1, h2]
      have HC := Lib.hid hc
      have H1 := Lib.hid (fun w => better_v s x.p y.p false h1 w)
      have H2 := Lib.hid (fun w => better_v s y.p x.p false h2 w)
      clear hc h1 h2
      go_enter Try.func25, Try.ntmps25
      go_wp2_with fail
      refine (H1.out _).mono ?_
      rintro e w' ⟨rfl, rfl⟩
      go_wp2_with fail
      refine (H2.out _).mono ?_
      rintro e w' ⟨rfl, rfl⟩
      go_wp2_with fail
      go_ret
      exact ⟨by rw [HC.out]; rfl, 0, _, by rw [alloc_eq_grow, alloc_eq_grow, grow_grow]; rfl⟩
    · have hc : cf s x y = 1 := by unfold cf; simp [h1, h2]
      have HC := Lib.hid hc
      have H1 := Lib.hid (fun w => better_v s x.p y.p false h1 w)
      have H2 := Lib.hid (fun w => better_v s y.p x.p true h2 w)
      clear hc h1 h2
      go_enter Try.func25, Try.ntmps25
      go_wp2_with fail
      refine (H1.out _).mono ?_
      rintro e w' ⟨rfl, rfl⟩
      go_wp2_with fail
      refine (H2.out _).mono ?_
      rintro e w' ⟨rfl, rfl⟩
      go_wp2_with fail
      go_ret
      exact ⟨by rw [HC.out]; rfl, 0, _, by rw [alloc_eq_grow, alloc_eq_grow, grow_grow]; rfl⟩
  · have hc : cf s x y = -1 := by unfold cf; simp [h1]
    have HC := Lib.hid hc
    have H1 := Lib.hid (fun w => better_v s x.p y.p true h1 w)
    clear hc h1
    go_enter Try.func25, Try.ntmps25
    go_wp2_with fail
    refine (H1.out _).mono ?_
    rintro e w' ⟨rfl, rfl⟩
    go_wp2_with fail
    go_ret
    exact ⟨by rw [HC.out]; rfl, 0, _, by rw [alloc_eq_grow, alloc_eq_grow, grow_grow]; rfl⟩
section
open Go.Sort Go.Lib
theorem flat_val (ls : List Lvl) (j : Nat) (h : j < ls.length * 3) : (vv ls)[j]? = some ((vc ls.toArray[j / 3]!)[j % 3]!) := by
  have hk : j / 3 < ls.length := by omega
  have h3 : j % 3 < 3 := Nat.mod_lt _ (by omega)
  have e := vv_get ls (j / 3) (j % 3) ls[j / 3] (List.getElem?_eq_getElem hk) h3
  rw [show j / 3 * 3 + j % 3 = j from by omega] at e
  have a1 : ls.toArray[j / 3]! = ls[j / 3] := by simp [hk]
  rw [e, a1, List.getElem?_eq_getElem (by rw [vc_len]; exact h3), getElem!_pos (vc ls[j / 3]) (j % 3) (by rw [vc_len]; exact h3)]
theorem holds_of_own {w : World} {base g cap n : Nat} {ls : List Lvl} (h : w.ownsRow base 39 3 (.slice (some ⟨g, 0, none⟩) n cap) n (vv ls)) (hn : n = ls.length) : HoldsK vc 3 w g 0 ls.toArray := by
  intro j hj
  have hj' : j < ls.length * 3 := by simpa using hj
  rw [Nat.zero_add]
  refine ⟨?_, ?_⟩
  · rw [World.ownsRow.cellAt h j (by omega), flat_val ls j hj', get_flatK vc 3 ls.toArray j (by simpa using hj')]
    rfl
  · rcases h.2 with ⟨hv, _⟩ | ⟨g', cp, cur, hv, _, hgh, _⟩
    · cases hv
    · injection hv with e1
      injection e1 with e1
      injection e1 with e1
      subst e1
      exact blk_frozen hgh j
theorem sort_heap (w : World) (g q : Nat) (d : Array Lvl) (os : Array Obj) (k : Nat) (hk : k ≠ g) (hlt : k < w.heap.size) : (sortWorldK vc 3 w g 0 q d os).heap[k]? = w.heap[k]? := by
  unfold sortWorldK putRowK putRow
  rw [heap_grow_old _ _ (by simp [mapBlock, Sort.ahead]; exact hlt)]
  simp only [mapBlock, Array.getElem?_modify]
  rw [if_neg (fun e : g = k => hk e.symm)]
  rfl
theorem sort_size (w : World) (g q : Nat) (d : Array Lvl) (os : Array Obj) : (sortWorldK vc 3 w g 0 q d os).heap.size = w.heap.size + os.size := by
  unfold sortWorldK putRowK putRow
  simp [mapBlock, Sort.ahead]
theorem sort_below {w : World} {base g : Nat} (q : Nat) (d : Array Lvl) (os : Array Obj) (hb : base ≤ g) (hs : base ≤ w.heap.size) : Go.RowKit.Below base w (sortWorldK vc 3 w g 0 q d os) :=
  ⟨rfl, rfl, rfl, by rw [sort_size]; omega, fun k hk => sort_heap w g q d os k (by omega) (by omega)⟩
theorem sort_own {w : World} {base g cap n : Nat} {ls ls' : List Lvl} (h : w.ownsRow base 39 3 (.slice (some ⟨g, 0, none⟩) n cap) n (vv ls)) (hn : n = ls.length) (hl : ls'.length = ls.length) (q : Nat) (os : Array Obj) : (sortWorldK vc 3 w g 0 q ls'.toArray os).ownsRow base 39 3 (.slice (some ⟨g, 0, none⟩) n cap) n (vv ls') := by
  refine ⟨by rw [vv_len]; omega, .inr ?_⟩
  rcases h.2 with ⟨hv, _⟩ | ⟨g', cp, cur, hv, hb, hgh, hc, hm, hs, ht⟩
  · cases hv
  · injection hv with e1 e2 e3
    injection e1 with e1
    injection e1 with e1
    subst e1
    subst e3
    refine ⟨g, cap, putCells id 0 (flatK vc 3 ls'.toArray) cur, rfl, hb, ?_, hc, hm, by simp [putCells]; exact hs, ?_⟩
    · unfold sortWorldK putRowK putRow
      rw [heap_grow_old _ _ (by simp [mapBlock, Sort.ahead]; exact blk_lt hgh)]
      show ((w.heap.modify g _)[g]?) = _
      rw [Array.getElem?_modify, if_pos rfl, hgh]
      rfl
    · apply List.ext_getElem?
      intro t
      by_cases h3 : t < n * 3
      · rw [List.getElem?_take_of_lt h3, Array.getElem?_toList, flat_val ls' t (by omega)]
        have hsz : t < cur.size := by rw [hs]; have := Nat.mul_le_mul_right 3 hc; omega
        simp only [putCells, Array.getElem?_mapIdx, Array.getElem?_eq_getElem hsz, Option.map_some]
        rw [if_pos ⟨Nat.zero_le _, by rw [size_flatK]; simp; omega⟩, Nat.sub_zero, get_flatK vc 3 ls'.toArray t (by simp; omega)]
        rfl
      · rw [List.getElem?_eq_none (by simp; omega), List.getElem?_eq_none (by rw [vv_len]; omega)]
end
open Go.Sort Go.Lib in
set_option maxHeartbeats 1000000 in
theorem sort_is (s : Int) (SB base cap n : Nat) (A : Option Addr) (ls : List Lvl) (w : World) (hn : n = ls.length) (h : w.ownsRow base 39 3 (.slice A n cap) n (vv ls)) (hs : w.cell? ⟨SB, 0, none⟩ = some (.int .i64 s)) (hlt : SB < base) (hw : base ≤ w.heap.size) (hl : ls.length ≤ 1000) :
    Calls Try.prog 24 #[.slice A n cap, .func (.func 25) #[] #[.pointer (some ⟨SB, 0, none⟩)]] w fun e w' => e = .returned (.tuple #[]) ∧ ∃ ls' : List Lvl, ls'.Perm ls ∧ ls'.Pairwise (fun x y => bet s y.p x.p = false) ∧ w'.ownsRow base 39 3 (.slice A n cap) n (vv ls') ∧ Go.RowKit.Below base w w' := by
  rcases Nat.eq_zero_or_pos n with h0 | h0
  · have hz : ls = [] := List.eq_nil_of_length_eq_zero (by omega)
    subst h0
    subst hz
    have hc := AnyF.slices_SortFunc_none laysSF A cap (.func (.func 25) #[] #[.pointer (some ⟨SB, 0, none⟩)]) w
    change Calls Try.prog 24 _ _ _ at hc
    exact hc.mono fun e w' ⟨he, hw'⟩ => ⟨he, [], .refl _, List.Pairwise.nil, by rw [hw']; exact h, by rw [hw']; exact Go.RowKit.Below.refl _ _⟩
  · obtain ⟨g, cp, hv, hbg, hgs⟩ := own_some h h0
    injection hv with e1 e2 e3
    subst e1
    subst e3
    subst hn
    have eg : ∀ args w, (callFunc 25 args).run Try.prog w = .ok (.enter 25 args) w := enters_of Try.func25 (by kernel_rfl) rfl
    have hcmp : CmpLays Try.prog 25 #[.pointer (some ⟨SB, 0, none⟩)] vc 3 (cf s) g 0 ls.toArray.size w := fun m os dk hsz x y => by
      refine clos s x y SB _ ?_ ?_
      · unfold sortWorldK
        rw [cell?_grow _ _ _ (by show SB < _; unfold putRowK putRow mapBlock; simp [Sort.ahead]; omega), cell?_putRowK_other vc 3 _ g 0 dk _ (by show SB ≠ g; omega)]
        exact hs
      · rw [sort_size]; omega
    have hcon := AnyQ.slices_SortFunc laysSF 3 Try.isAgg39 Try.sizeOf39 vc (fun _ => rfl) (fun x v hv => vc_one x v hv) (cf s) (swo_cf s) 25 #[.pointer (some ⟨SB, 0, none⟩)] g 0 cap ls.toArray w eg hcmp (holds_of_own h rfl) hgs (by simp; omega)
    change Calls Try.prog 24 _ _ _ at hcon
    rw [List.size_toArray] at hcon
    refine hcon.mono fun e w' ⟨he, d', q, os, hp, hso, hw'⟩ => ⟨he, d'.toList, ?_, ?_, ?_, ?_⟩
    · obtain ⟨p1, _, p3⟩ := hp
      have z : d'.extract 0 ls.length = d' := by
        have : ls.length = d'.size := by rw [p1]; simp
        rw [this]; simp
      rw [z] at p3
      simpa using p3
    · have p1 : d'.size = ls.length := by rw [hp.1]; simp
      rw [List.pairwise_iff_getElem]
      intro i j hi hj hij
      have hj' : j < d'.size := by simpa using hj
      have := hso i j (Nat.zero_le _) hij (by omega)
      rw [lt_cf] at this
      rw [getElem!_pos d' j hj', getElem!_pos d' i (by omega)] at this
      simpa using this
    · have p1 : d'.toList.length = ls.length := by have := hp.1; simp at this; simpa using this
      rw [hw']
      have := sort_own (ls' := d'.toList) h rfl p1 q os
      simpa using this
    · rw [hw']
      exact sort_below q d' os hbg hw
end Go.Proofs.Ytafignfoejefjaa

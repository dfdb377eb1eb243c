/-
  The prices of a name.
-/
import Derived.Test.YtafignfoejefjaaRows
import Derived.Test.YtafignfoejefjaaKit
import Derived.Test.YtafignfoejefjaaApp
import Derived.Test.YtafignfoejefjaaQuiet
import Derived.WalkKit
import Derived.ProofKit
import Derived.OpenShut
import Derived.ShutString
import Derived.Below
import Derived.Outline
import Derived.WalkLawsBesides
import Derived.WalkSpells
import Derived.Handy
import Derived.Deep.QuietTactic
import Derived.BigQuiet
import Derived.RegionTactic
import Derived.ChangeAlike
import Derived.Lib.Hide
import Derived.Laws.Rows
import Derived.Laws.Tables
import Derived.Laws.CopyOwn
import Derived.Laws.MakeOwn
import Derived.Laws.Entries
import Derived.Laws.OwnMore
import Derived.Deep.WholeRow
import Derived.Deep.LoopGhost
import Derived.Deep.AppendLies
import Derived.Deep.Draws
import Derived.Maps.AppendAt
import Derived.OwnWalk
import Derived.Deep.RegionHeld3
import Derived.Deep.Cut
import Derived.Deep.CutRange
import Derived.Deep.DeepCutAuto
import Derived.Deep.CutBlock
import Derived.Lib.SliceRun
import Derived.IntWalk
import Derived.Test.YtafignfoejefjaaBkM
import Derived.Test.YtafignfoejefjaaBkO
import Derived.Test.YtafignfoejefjaaBkP
import Derived.Test.YtafignfoejefjaaBkQ
import Derived.Test.YtafignfoejefjaaBkL
import Derived.Shelf.Sort.Plain
import Derived.Shelf.Slices.CompactI
import Derived.Shelf.Slices.In.SortNone
import Derived.Test.YtafignfoejefjaaShelf
import Derived.Test.YtafignfoejefjaaBkR
import Derived.Test.YtafignfoejefjaaBkCa
namespace Go.Proofs.Ytafignfoejefjaa
open Go.ChangeShapes Go.WideShapes Go.ChangeAt Go.RowKit
/-- The prices of a name's orders. -/
def pz (nm : Int) : List Ord → List Int
  | [] => []
  | o :: t => (if o.n = nm then [o.p] else []) ++ pz nm t
theorem pz_app (nm : Int) (a b : List Ord) : pz nm (a ++ b) = pz nm a ++ pz nm b := by
  induction a with
  | nil => rfl
  | cons x t ih => simp only [List.cons_append, pz, ih, List.append_assoc]
theorem pz_len (nm : Int) : ∀ os : List Ord, (pz nm os).length ≤ os.length
  | [] => Nat.le_refl _
  | o :: t => by
    have := pz_len nm t
    simp only [pz, List.length_append, List.length_cons]
    split <;> simp <;> omega
theorem pz_mem (nm x : Int) : ∀ os : List Ord, x ∈ pz nm os ↔ AllP os nm x
  | [] => by simp [pz, AllP]
  | o :: t => by
    have ih := pz_mem nm x t
    unfold AllP at ih ⊢
    simp only [pz, List.mem_append, ih, List.mem_cons, exists_eq_or_imp]
    by_cases h : o.n = nm
    · simp [h]; constructor
      · rintro (h1 | h1)
        · exact .inl h1.symm
        · exact .inr h1
      · rintro (h1 | h1)
        · exact .inl h1.symm
        · exact .inr h1
    · simp [h]
theorem infoN : (Try.prog.info? 3).map (fun i => (i.zero, i.size, i.bytes)) = some (some (.int .i64 0), 1, 8) := by kernel_rfl
open Go.Sort Go.Lib in
/-- A slice of numbers, as a sort leaves it. -/
def SR (w : World) (base : Nat) (A : Option Addr) (n c : Nat) (l : List Int) : Prop := l.length = n ∧ (0 < n → ∃ g, A = some ⟨g, 0, none⟩ ∧ base ≤ g ∧ g < w.heap.size ∧ n ≤ c ∧ Holds (Value.int .i64) w g 0 l.toArray)
open Go.Sort Go.Lib in
theorem SR.of_own {w : World} {base n c : Nat} {A : Option Addr} {zs : List Int} (h : w.ownsRow base 3 1 (.slice A n c) n (zs.map (Value.int .i64))) (hn : zs.length = n) : SR w base A n c zs := by
  refine ⟨hn, fun h0 => ?_⟩
  obtain ⟨g, cp, hv, hbg, hgs⟩ := own_some h h0
  injection hv with e1 e2 e3
  subst e1
  subst e3
  rcases h.2 with ⟨hv, _⟩ | ⟨g', cp, cur, hv, _, hgh, hcc, _⟩
  · cases hv
  · injection hv with e1 _ e3
    injection e1 with e1
    injection e1 with e1
    subst e1
    subst e3
    refine ⟨g, rfl, hbg, hgs, hcc, fun j hj => ?_⟩
    have hj' : j < zs.length := by simpa using hj
    rw [Nat.zero_add]
    refine ⟨?_, blk_frozen hgh j⟩
    rw [World.ownsRow.cellAt h j (by omega)]
    simp [hj']
open Go.Sort Go.Lib in
theorem put_heap (w : World) (g q : Nat) (d : Array Int) (os : Array Obj) (k : Nat) (hk : k ≠ g) (hlt : k < w.heap.size) : (grow (putRow (Value.int .i64) (Sort.ahead w q) g 0 d) os).heap[k]? = w.heap[k]? := by
  unfold putRow
  rw [heap_grow_old _ _ (by simp [mapBlock, Sort.ahead]; exact hlt)]
  simp only [mapBlock, Array.getElem?_modify]
  rw [if_neg (fun e : g = k => hk e.symm)]
  rfl
open Go.Sort Go.Lib in
theorem put_size (w : World) (g q : Nat) (d : Array Int) (os : Array Obj) : (grow (putRow (Value.int .i64) (Sort.ahead w q) g 0 d) os).heap.size = w.heap.size + os.size := by
  unfold putRow
  simp [mapBlock, Sort.ahead]
open Go.Sort Go.Lib in
theorem put_below {w : World} {base g : Nat} (q : Nat) (d : Array Int) (os : Array Obj) (hb : base ≤ g) (hs : base ≤ w.heap.size) : Go.RowKit.Below base w (grow (putRow (Value.int .i64) (Sort.ahead w q) g 0 d) os) :=
  ⟨rfl, rfl, rfl, by rw [put_size]; omega, fun k hk => put_heap w g q d os k (by omega) (by omega)⟩
open Go.Sort Go.Lib in
theorem sort43 (base n c : Nat) (A : Option Addr) (zs : List Int) (w : World) (h : SR w base A n c zs) (hw : base ≤ w.heap.size) (hl : zs.length ≤ 40) : Calls Try.prog 43 #[.slice A n c] w fun e w' => e = .returned (.tuple #[]) ∧ SR w' base A n c (zs.mergeSort fun x y => decide (x ≤ y)) ∧ Go.RowKit.Below base w w' := by
  obtain ⟨hn, hA⟩ := h
  subst hn
  rcases Nat.eq_zero_or_pos zs.length with h0 | h0
  · have hz : zs = [] := List.eq_nil_of_length_eq_zero h0
    subst hz
    have hc := Any.slices_Sort_int_none lays189 A c w
    change Calls Try.prog 43 _ _ _ at hc
    exact hc.mono fun e w' ⟨he, hw'⟩ => ⟨he, ⟨by simp, fun h => absurd h (by simp)⟩, by rw [hw']; exact Go.RowKit.Below.refl _ _⟩
  · obtain ⟨g, rfl, hbg, hgs, hcc, hH⟩ := hA h0
    have hc := Any.slices_Sort_int lays189 g 0 c zs w hH hgs (by omega)
    change Calls Try.prog 43 _ _ _ at hc
    refine hc.mono fun e w' ⟨he, q, os, hw'⟩ => ⟨he, ⟨by simp, fun _ => ⟨g, rfl, hbg, ?_, hcc, ?_⟩⟩, ?_⟩
    · rw [hw', put_size]; omega
    · rw [hw']
      exact holds_grow _ _ _ _ _ _ (by unfold putRow; simp [mapBlock, Sort.ahead]; exact hgs) (holds_putRow _ _ _ _ zs.toArray _ (holds_ahead _ _ _ _ _ _ hH) (by simp))
    · rw [hw']; exact put_below q _ os hbg hw
open Go.Lib in
theorem cmp_le (zs : List Int) : (compact zs).length ≤ zs.length := by
  unfold compact compactUpTo
  rw [List.length_map]
  exact Nat.le_trans (List.length_filter_le _ _) (by simp)
open Go.Sort Go.Lib in
theorem comp44 (base n c : Nat) (A : Option Addr) (zs : List Int) (w : World) (h : SR w base A n c zs) (hw : base ≤ w.heap.size) (hl : zs.length ≤ 40) : Calls Try.prog 44 #[.slice A n c] w fun e w' => e = .returned (.slice A (Lib.compact zs).length c) ∧ SR w' base A (Lib.compact zs).length c (Lib.compact zs) ∧ Go.RowKit.Below base w w' := by
  obtain ⟨hn, hA⟩ := h
  subst hn
  rcases Nat.eq_zero_or_pos zs.length with h0 | h0
  · have hz : zs = [] := List.eq_nil_of_length_eq_zero h0
    subst hz
    have hc := Any.slices_Compact_int_empty laysNm220 A c w
    change Calls Try.prog 44 _ _ _ at hc
    exact hc.mono fun e w' ⟨he, hw'⟩ => ⟨he, ⟨rfl, fun h => absurd h (by decide)⟩, by rw [hw']; exact Go.RowKit.Below.refl _ _⟩
  · obtain ⟨g, rfl, hbg, hgs, hcc, hH⟩ := hA h0
    have hle := cmp_le zs
    have hc := Any.slices_Compact_int laysNm220 g 0 c zs w hH (by omega) hcc
    change Calls Try.prog 44 _ _ _ at hc
    refine hc.mono fun e w' ⟨he, q, hw'⟩ => ?_
    have hw2 : w' = grow (putRow (Value.int .i64) (Sort.ahead w q) g 0 (Lib.compact zs ++ List.replicate (zs.length - (Lib.compact zs).length) 0).toArray) #[] := by rw [grow_empty]; exact hw'
    refine ⟨he, ⟨rfl, fun _ => ⟨g, rfl, hbg, ?_, by omega, ?_⟩⟩, ?_⟩
    · rw [hw2, put_size]; simp; exact hgs
    · have hh := holds_putRow (Value.int .i64) (Sort.ahead w q) g 0 zs.toArray (Lib.compact zs ++ List.replicate (zs.length - (Lib.compact zs).length) 0).toArray (holds_ahead _ _ _ _ _ _ hH) (by simp; omega)
      rw [← hw'] at hh
      intro j hj
      have hj' : j < (Lib.compact zs).length := by simpa using hj
      obtain ⟨a, b⟩ := hh j (by simp; omega)
      refine ⟨?_, b⟩
      rw [a]
      have e1 : (Go.Lib.compact zs ++ List.replicate (zs.length - (Go.Lib.compact zs).length) 0).toArray[j]! = (Go.Lib.compact zs)[j] := by
        rw [getElem!_pos _ j (by simp; omega)]
        simp [hj', List.getElem_append]
      have e2 : (Go.Lib.compact zs).toArray[j]! = (Go.Lib.compact zs)[j] := by
        rw [getElem!_pos _ j (by simpa using hj')]
        simp
      rw [e1, e2]
    · rw [hw2]; exact put_below q _ #[] hbg hw
set_option maxRecDepth 100000 in
set_option maxHeartbeats 8000000 in
theorem prices_is (p c n b r f g : Int) (base cap : Nat) (A : Option Addr) (m : Nat) (os : List Ord) (nm : Int) (w : World) (hm : m = os.length) (h : w.ownsRow base 55 7 (.slice A m cap) m (ov os)) (hl : os.length ≤ 40) (hF : Fine os) : Calls Try.prog 29 #[.agg #[.int .i64 p, .int .i64 c, .int .i64 n, .int .i64 b, .int .i64 r, .int .i64 f, .int .i64 g, .slice A m cap], .int .i64 nm] w fun e w' => ∃ (A2 : Option Addr) (c2 : Nat) (ps : List Int), e = .returned (.slice A2 ps.length c2) ∧ PrIs os nm ps ∧ ps.length ≤ 40 ∧ SR w' w.heap.size A2 ps.length c2 ps ∧ Below w.heap.size w w' := by
  subst hm
  have HH := Lib.hid h
  have HL := Lib.hid hl
  obtain ⟨j0, hj, hj0, hj1, hj2⟩ := info_parts infoN
  have HJ := Lib.hid hj
  have HJ0 := Lib.hid hj0
  have HJ1 := Lib.hid hj1
  have HJ2 := Lib.hid hj2
  clear h hl hF hj hj0 hj1 hj2
  go_enter Try.func29, Try.ntmps29
  go_wp2_with fail
  have b0 := Bl.new w [.int .i64 p, .int .i64 c, .int .i64 n, .int .i64 b, .int .i64 r, .int .i64 f, .int .i64 g, .slice A os.length cap] 29
  have g0 : Below w.heap.size w (w.alloc (.cells (List.toArray [.int .i64 p, .int .i64 c, .int .i64 n, .int .i64 b, .int .i64 r, .int .i64 f, .int .i64 g, .slice A os.length cap]) 29)) := by go_grown
  have z0 : (w.alloc (.cells (List.toArray [.int .i64 p, .int .i64 c, .int .i64 n, .int .i64 b, .int .i64 r, .int .i64 f, .int .i64 g, .slice A os.length cap]) 29)).heap.size = w.heap.size + 1 := World.size_alloc ..
  obtain ⟨W, hW⟩ : ∃ W, W = w.alloc (.cells (List.toArray [.int .i64 p, .int .i64 c, .int .i64 n, .int .i64 b, .int .i64 r, .int .i64 f, .int .i64 g, .slice A os.length cap]) 29) := ⟨_, rfl⟩
  rw [← hW] at b0 g0 z0 ⊢
  have HM0 := Lib.hid (And.intro b0 (And.intro g0 z0))
  clear b0 g0 z0 hW
  go_loopw [5, 11] (fun v j wr => ∃ k : Nat, k ≤ os.length ∧ j = .int .i64 (k : Int) ∧ Hid (wr.ownsRow W.heap.size 3 1 v (pz nm (os.take k)).length ((pz nm (os.take k)).map (Value.int .i64)) ∧ Below W.heap.size W wr)) (fun _ j _ => os.length + 1 - (intOf j).toNat)
  case atStart => exact ⟨0, Nat.zero_le _, rfl, Lib.hid ⟨⟨rfl, .inl ⟨rfl, rfl⟩⟩, Below.refl _ _⟩⟩
  case round =>
    obtain ⟨k, hk, rfl, HR⟩ := hrel
    obtain ⟨A2, c2, hv2⟩ := oshape HR.out.1
    subst hv2
    have k0 : (0 : Int) ≤ (k : Int) := by omega
    by_cases hlt : k < os.length
    · obtain ⟨gb, cp2, hv, _, hgl⟩ := own_some HH.out (by omega)
      injection hv with e1 e2 e3
      subst e1
      subst e3
      clear e2
      obtain ⟨o, ho⟩ : ∃ o, os[k]? = some o := ⟨os[k], List.getElem?_eq_getElem hlt⟩
      have hww := Below.step HM0.out.2.1 HR.out.2
      have d0 : wr.cell? ⟨gb, k * 7, none⟩ = some (.int .i64 o.c) := (hww.cell (p := ⟨gb, k * 7, none⟩) hgl).trans (orow_cell (j := 0) HH.out ho rfl (by omega) rfl)
      have d1 : wr.cell? ⟨gb, k * 7 + 1, none⟩ = some (.int .i64 o.n) := (hww.cell (p := ⟨gb, k * 7 + 1, none⟩) hgl).trans (orow_cell (j := 1) HH.out ho rfl (by omega) rfl)
      have d2 : wr.cell? ⟨gb, k * 7 + 2, none⟩ = some (.int .i64 o.s) := (hww.cell (p := ⟨gb, k * 7 + 2, none⟩) hgl).trans (orow_cell (j := 2) HH.out ho rfl (by omega) rfl)
      have d3 : wr.cell? ⟨gb, k * 7 + 3, none⟩ = some (.int .i64 o.p) := (hww.cell (p := ⟨gb, k * 7 + 3, none⟩) hgl).trans (orow_cell (j := 3) HH.out ho rfl (by omega) rfl)
      have d4 : wr.cell? ⟨gb, k * 7 + 4, none⟩ = some (.int .i64 o.l) := (hww.cell (p := ⟨gb, k * 7 + 4, none⟩) hgl).trans (orow_cell (j := 4) HH.out ho rfl (by omega) rfl)
      have d5 : wr.cell? ⟨gb, k * 7 + 5, none⟩ = some (.int .i64 o.u) := (hww.cell (p := ⟨gb, k * 7 + 5, none⟩) hgl).trans (orow_cell (j := 5) HH.out ho rfl (by omega) rfl)
      have d6 : wr.cell? ⟨gb, k * 7 + 6, none⟩ = some (.int .i64 o.q) := (hww.cell (p := ⟨gb, k * 7 + 6, none⟩) hgl).trans (orow_cell (j := 6) HH.out ho rfl (by omega) rfl)
      have q1 : (k : Int) < (os.length : Int) := by omega
      have q2 : (os.length : Int) ≤ 40 := by have := HL.out; omega
      have Hk := Lib.hid hlt
      have HTK := Lib.hid (show os.take (k + 1) = os.take k ++ [o] by rw [List.take_add_one, ho]; rfl)
      have hpl : (pz nm (os.take k)).length ≤ 40 := by have := pz_len nm (os.take k); have := HL.out; simp at *; omega
      clear ho hlt hgl hk hww
      by_cases hn : o.n = nm
      rotate_left
      · have n1 : (o.n == nm) = false := beq_eq_false_iff_ne.2 hn
        have HN := Lib.hid hn
        have gO : Below wr.heap.size wr (wr.alloc (.cells (List.toArray [.int .i64 o.c, .int .i64 o.n, .int .i64 o.s, .int .i64 o.p, .int .i64 o.l, .int .i64 o.u, .int .i64 o.q]) 55)) := by go_grown
        have HGO := Lib.hid gO
        clear hn gO hpl
        go_wp2_with fail
        go_roundw
        case rel => exact ⟨k + 1, Hk.out, by go_num, Lib.hid (by rw [HTK.out, pz_app]; simp only [pz, if_neg HN.out, List.append_nil]; exact ⟨rkept HR.out.1 HGO.out, Below.step HR.out.2 HGO.out⟩)⟩
        case measure => have := Hk.out; simp [intOf]; omega
      · have n1 : (o.n == nm) = true := by rw [hn]; simp
        have HN := Lib.hid hn
        have gV : Below wr.heap.size wr ((wr.alloc (.cells (List.toArray [.int .i64 o.c, .int .i64 o.n, .int .i64 o.s, .int .i64 o.p, .int .i64 o.l, .int .i64 o.u, .int .i64 o.q]) 55)).alloc (.cells (List.toArray [.int .i64 o.p]) 3)) := by go_grown
        have hrd := reads_newN (wr.alloc (.cells (List.toArray [.int .i64 o.c, .int .i64 o.n, .int .i64 o.s, .int .i64 o.p, .int .i64 o.l, .int .i64 o.u, .int .i64 o.q]) 55)) 1 1 [.int .i64 o.p] 3 rfl
        rw [World.size_alloc] at hrd
        have HRd := Lib.hid hrd
        have HGV := Lib.hid gV
        have HOW := Lib.hid (rkept HR.out.1 gV)
        have NV := Lib.hid (ints_oneCell .i64 [o.p])
        have N1 := Lib.hid (show (pz nm (os.take k)).length + 1 ≤ maxLen from by unfold maxLen; omega)
        have N2 := Lib.hid (show ((pz nm (os.take k)).length + 1) * 8 ≤ 140737488355328 from by omega)
        have N3 := Lib.hid (show W.heap.size ≤ (((wr.alloc (.cells (List.toArray [.int .i64 o.c, .int .i64 o.n, .int .i64 o.s, .int .i64 o.p, .int .i64 o.l, .int .i64 o.u, .int .i64 o.q]) 55)).alloc (.cells (List.toArray [.int .i64 o.p]) 3))).heap.size from by have := gV.size; have := HR.out.2.size; omega)
        clear hn gV hrd hpl
        go_wp2_with (at_builtin; refine wpList_append_any _ rfl (.tmp 20) (.tmp 24) 75 rfl W.heap.size 3 j0 (.int .i64 0) 1 8 Try.underlying75 HJ.out HJ0.out HJ1.out HJ2.out rfl (by decide) _ (pz nm (os.take k)).length ((pz nm (os.take k)).map (Value.int .i64)) rfl HOW.out _ (some ⟨wr.heap.size + 1, 0, none⟩) 1 1 _ rfl HRd.out NV.out N1.out N2.out N3.out ?_; intro v8 w8 hown8 hgrow8 hblk8; have HP := Lib.hid (And.intro hown8 hgrow8); clear hown8 hgrow8 hblk8)
        go_roundw
        case rel =>
          refine ⟨k + 1, Hk.out, by go_num, Lib.hid ?_⟩
          rw [HTK.out, pz_app]
          simp only [pz, if_pos HN.out, List.append_nil]
          rw [List.length_append, List.map_append]
          have h1 := Below.step HR.out.2 HGV.out
          exact ⟨HP.out.1, Below.grown h1 HP.out.2 h1.size (fun g e => (HOW.out.lt g e).1)⟩
        case measure => have := Hk.out; simp [intOf]; omega
    · have hke : k = os.length := by omega
      subst hke
      have h := HR.out
      rw [List.take_length] at h
      have hsr := SR.of_own h.1 rfl
      have hpl : (pz nm os).length ≤ 40 := by have := pz_len nm os; have := HL.out; omega
      have hmem : ∀ x, x ∈ pz nm os ↔ AllP os nm x := fun x => pz_mem nm x os
      rw [List.take_length]
      have HPI := Lib.hid (comp_sorted (pz nm os) nm os hmem)
      generalize pz nm os = zs at *
      have HB := Lib.hid h.2
      have HC1 := Lib.hid (sort43 W.heap.size zs.length c2 A2 zs wr hsr h.2.size hpl)
      have HPL := Lib.hid hpl
      clear HR h hk hlt hsr hpl hmem
      go_wp2_with fail
      refine HC1.out.mono ?_
      rintro e1 w1 ⟨rfl, hs1, hb1⟩
      have hl1 : (zs.mergeSort fun x y => decide (x ≤ y)).length ≤ 40 := by rw [List.length_mergeSort]; exact HPL.out
      have hB1 : Below W.heap.size W w1 := HB.out.trans hb1
      have HC2 := Lib.hid (comp44 W.heap.size zs.length c2 A2 (zs.mergeSort fun x y => decide (x ≤ y)) w1 hs1 hB1.size hl1)
      have hl2 := cmp_le (zs.mergeSort fun x y => decide (x ≤ y))
      have HL2 := Lib.hid (show (Go.Lib.compact (zs.mergeSort fun x y => decide (x ≤ y))).length ≤ 40 by omega)
      have HB1 := Lib.hid hB1
      clear hs1 hb1 hl1 hB1 hl2
      go_wp2_with fail
      refine HC2.out.mono ?_
      rintro e2 w2 ⟨rfl, ⟨ha, hs2⟩, hb2⟩
      have HB2 := Lib.hid (Below.step HM0.out.2.1 (HB1.out.trans hb2))
      have HS2 : Hid (SR w2 w.heap.size A2 (Go.Lib.compact (zs.mergeSort fun x y => decide (x ≤ y))).length c2 (Go.Lib.compact (zs.mergeSort fun x y => decide (x ≤ y)))) := Lib.hid ⟨ha, fun h0 => by
        obtain ⟨g, a1, a2, a3, a4, a5⟩ := hs2 h0
        exact ⟨g, a1, by have := HM0.out.2.2; omega, a3, a4, a5⟩⟩
      clear ha hs2 hb2 HC1 HC2
      go_wp2_with fail
      go_ret
      exact ⟨A2, c2, _, rfl, HPI.out, HL2.out, HS2.out, HB2.out⟩
end Go.Proofs.Ytafignfoejefjaa

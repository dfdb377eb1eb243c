/-
  Agents of rules; picks, gaps, counts of plans.
-/
import Derived.Test.YtdlgpbmeeiakdaaRows
import Derived.Test.YtdlgpbmeeiakdaaKit
import Derived.Test.YtdlgpbmeeiakdaaApp
import Derived.Test.YtdlgpbmeeiakdaaEv
import Derived.Test.YtdlgpbmeeiakdaaEvP
import Derived.Test.YtdlgpbmeeiakdaaQuiet
import Derived.WalkKit
import Derived.ProofKit
import Derived.OpenShut
import Derived.ShutString
import Derived.Below
import Derived.Outline
import Derived.WalkLawsBesides
import Derived.WalkSpells
import Derived.Handy
import Derived.Deep.QuietTactic
import Derived.BigQuiet
import Derived.RegionTactic
import Derived.ChangeAlike
import Derived.Lib.Hide
import Derived.Laws.Rows
import Derived.Laws.Tables
import Derived.Laws.CopyOwn
import Derived.Laws.MakeOwn
import Derived.Laws.Entries
import Derived.Laws.OwnMore
import Derived.Deep.WholeRow
import Derived.Deep.LoopGhost
import Derived.Deep.AppendLies
import Derived.Deep.Draws
import Derived.Maps.AppendAt
import Derived.OwnWalk
import Derived.Deep.RegionHeld3
import Derived.Deep.Cut
import Derived.Deep.CutRange
import Derived.Deep.DeepCutAuto
import Derived.Deep.CutBlock
import Derived.Lib.SliceRun
import Derived.IntWalk
namespace Go.Proofs.Ytdlgpbmeeiakdaa
open Go.ChangeShapes Go.WideShapes Go.ChangeAt Go.RowKit
/-- A block of seven numbers. -/
def Blk7 (B : Nat) (v0 v1 v2 v3 v4 v5 v6 : Int) (w : World) : Prop :=
  (w.cell? ⟨B, 0, none⟩ = some (.int .i64 v0) ∧ w.cell? ⟨B, 1, none⟩ = some (.int .i64 v1) ∧ w.cell? ⟨B, 2, none⟩ = some (.int .i64 v2) ∧ w.cell? ⟨B, 3, none⟩ = some (.int .i64 v3) ∧ w.cell? ⟨B, 4, none⟩ = some (.int .i64 v4) ∧ w.cell? ⟨B, 5, none⟩ = some (.int .i64 v5) ∧ w.cell? ⟨B, 6, none⟩ = some (.int .i64 v6)) ∧ B < w.heap.size
theorem Blk7.below {B : Nat} {v0 v1 v2 v3 v4 v5 v6 : Int} {w w' : World} (h : Blk7 B v0 v1 v2 v3 v4 v5 v6 w) (hb : Below w.heap.size w w') : Blk7 B v0 v1 v2 v3 v4 v5 v6 w' := by
  obtain ⟨⟨c0, c1, c2, c3, c4, c5, c6⟩, hl⟩ := h
  have hc : ∀ o, w'.cell? ⟨B, o, none⟩ = w.cell? ⟨B, o, none⟩ := fun o => hb.cell (p := ⟨B, o, none⟩) hl
  exact ⟨⟨(hc 0).trans c0, (hc 1).trans c1, (hc 2).trans c2, (hc 3).trans c3, (hc 4).trans c4, (hc 5).trans c5, (hc 6).trans c6⟩, Nat.lt_of_lt_of_le hl hb.size⟩
theorem Blk7.new (w : World) (v0 v1 v2 v3 v4 v5 v6 : Int) (t : TypeId) : Blk7 w.heap.size v0 v1 v2 v3 v4 v5 v6 (w.alloc (.cells #[.int .i64 v0, .int .i64 v1, .int .i64 v2, .int .i64 v3, .int .i64 v4, .int .i64 v5, .int .i64 v6] t)) := by
  refine ⟨⟨?_, ?_, ?_, ?_, ?_, ?_, ?_⟩, ?_⟩ <;> simp [go_sem]
theorem Blk7.drew {B : Nat} {v0 v1 v2 v3 v4 v5 v6 : Int} {w : World} (h : Blk7 B v0 v1 v2 v3 v4 v5 v6 w) : Blk7 B v0 v1 v2 v3 v4 v5 v6 w.drew := Blk7.below h (Below.drew (Below.refl _ _))
theorem mul12 {n b : Int} (hn : 1 ≤ n ∧ n ≤ 3) (hb : 1 ≤ b ∧ b ≤ 4) : 1 ≤ n * b ∧ n * b ≤ 12 := by
  obtain ⟨n1, n2⟩ := hn
  rcases (show b = 1 ∨ b = 2 ∨ b = 3 ∨ b = 4 by omega) with rfl | rfl | rfl | rfl <;> omega
set_option maxHeartbeats 1000000 in
theorem shards_i (p c n b r f g : Int) (w : World) (m : 1 ≤ n * b ∧ n * b ≤ 12) : Calls Try.prog 12 #[.agg #[.int .i64 p, .int .i64 c, .int .i64 n, .int .i64 b, .int .i64 r, .int .i64 f, .int .i64 g]] w fun e w' => e = .returned (.int .i64 (n * b)) ∧ Below w.heap.size w w' := by
  obtain ⟨m0, m1⟩ := m
  go_enter Try.func12, Try.ntmps12
  go_wp2
  go_ret
  exact ⟨rfl, by go_grown⟩
set_option maxHeartbeats 1000000 in
theorem agents_i (p c n b r f g : Int) (w : World) (m : 1 ≤ n * b ∧ n * b ≤ 12) (hp : 1 ≤ p ∧ p ≤ 6) : Calls Try.prog 15 #[.agg #[.int .i64 p, .int .i64 c, .int .i64 n, .int .i64 b, .int .i64 r, .int .i64 f, .int .i64 g]] w fun e w' => e = .returned (.int .i64 (p + 2 * (n * b))) ∧ Below w.heap.size w w' := by
  have M := Lib.hid m
  obtain ⟨m0, m1⟩ := m
  obtain ⟨p1, p2⟩ := hp
  have W1 : IntKind.i64.wrap (2 * (n * b)) = 2 * (n * b) := IntWalk.i64_in _ (by omega)
  have W2 : IntKind.i64.wrap (p + 2 * (n * b)) = p + 2 * (n * b) := IntWalk.i64_in _ (by omega)
  have bX := Blk7.drew (Blk7.new w p c n b r f g 25)
  have hC : Below w.heap.size w (w.alloc (.cells #[.int .i64 p, .int .i64 c, .int .i64 n, .int .i64 b, .int .i64 r, .int .i64 f, .int .i64 g] 25)).drew := Below.drew (by go_grown)
  have hS := bX.1
  go_enter Try.func15, Try.ntmps15
  go_wp2_with fail
  go_region_held3 (fun w' => w'.cell? ⟨w.heap.size, 0, none⟩ = some (.int .i64 p) ∧ w'.cell? ⟨w.heap.size, 1, none⟩ = some (.int .i64 c) ∧ w'.cell? ⟨w.heap.size, 2, none⟩ = some (.int .i64 n) ∧ w'.cell? ⟨w.heap.size, 3, none⟩ = some (.int .i64 b) ∧ w'.cell? ⟨w.heap.size, 4, none⟩ = some (.int .i64 r) ∧ w'.cell? ⟨w.heap.size, 5, none⟩ = some (.int .i64 f) ∧ w'.cell? ⟨w.heap.size, 6, none⟩ = some (.int .i64 g)) (first | with_reducible exact hS | fail) (first | (go_at_call 12; (with_reducible refine (shards_i p c n b r f g _ M.out).mono ?_); rintro e wy ⟨rfl, hby⟩; have bX := Blk7.below bX hby; have hC := Below.step hC hby; have hS := bX.1; clear hby) | fail)
  go_wp2
  go_ret
  exact ⟨rfl, hC⟩
theorem blk_set {w : World} {g : Nat} {t : TypeId} {cs : Array Value} (h : w.heap[g]? = some (.cells cs t (0, 0))) (i : Nat) (u : Value) : (w.setCell ⟨g, i, none⟩ u).heap[g]? = some (.cells (cs.setIfInBounds i u) t (0, 0)) := by
  simp [World.setCell, Array.getElem?_modify, h]
theorem blk_far {w : World} {g : Nat} {o : Obj} (h : w.heap[g]? = some o) {p : Addr} (hp : g ≠ p.block) (u : Value) : (w.setCell p u).heap[g]? = some o := (Below.heap_setCell w p u g hp).trans h
theorem blk_frozen {w : World} {g : Nat} {t : TypeId} {cs : Array Value} (h : w.heap[g]? = some (.cells cs t (0, 0))) (i : Nat) : w.frozen? ⟨g, i, none⟩ = false := by
  simp [World.frozen?, h]
theorem blk_lt {w : World} {g : Nat} {o : Obj} (h : w.heap[g]? = some o) : g < w.heap.size := by
  rcases Nat.lt_or_ge g w.heap.size with hlt | hge
  · exact hlt
  · rw [Array.getElem?_eq_none hge] at h; cases h

theorem pick_is (a : Int) (w : World) : Calls Try.prog 47 #[.int .i64 a] w fun e w' => e = .returned (.agg #[.int .i64 3, .int .i64 a, .int .i64 0, .int .i64 0, .int .i64 0, .int .i64 0, .int .i64 0, .int .i64 0, .int .i64 0, .int .i64 0, .int .i64 0, .int .i64 0]) ∧ Below w.heap.size w w' := by
  go_enter Try.func47, Try.ntmps47
  go_wp2
  refine bodyPost_ret (by simp [results, Try.results47, go_sem]; try rfl) rfl ⟨rfl, ?_⟩
  go_grown
theorem picks_is (k x n a : Int) (w : World) : Calls Try.prog 52 #[.agg #[.int .i64 k, .int .i64 x, .int .i64 n, .int .i64 0, .int .i64 0, .int .i64 0, .int .i64 0, .int .i64 0, .int .i64 0, .int .i64 0, .int .i64 0, .int .i64 0], .int .i64 a] w fun e w' => e = .returned (.bool (isP a (k, x, n))) ∧ Below w.heap.size w w' := by
  by_cases h1 : k = 3
  · by_cases h2 : x = a
    · rw [isP_yes a (k, x, n) h1 h2]
      have e1 : (k == 3) = true := by rw [h1]; rfl
      have e2 : (x == a) = true := by rw [h2]; simp
      clear h1 h2
      go_enter Try.func52, Try.ntmps52
      go_wp2
      go_ret
      exact ⟨rfl, by go_grown⟩
    · rw [isP_no2 a (k, x, n) h2]
      have e1 : (k == 3) = true := by rw [h1]; rfl
      have e2 : (x == a) = false := by rw [beq_eq_false_iff_ne]; exact h2
      clear h1 h2
      go_enter Try.func52, Try.ntmps52
      go_wp2
      go_ret
      exact ⟨rfl, by go_grown⟩
  · rw [isP_no1 a (k, x, n) h1]
    have e1 : (k == 3) = false := by rw [beq_eq_false_iff_ne]; exact h1
    clear h1
    go_enter Try.func52, Try.ntmps52
    go_wp2
    go_ret
    exact ⟨rfl, by go_grown⟩
set_option maxRecDepth 100000 in
set_option maxHeartbeats 4000000 in
theorem gap_is (a : Int) (A : Option Addr) (cap : Nat) (l : List Ev) (w : World) (h : EAt w A l) (hl : l.length ≤ 100000) :
    Calls Try.prog 32 #[.int .i64 a, .slice A l.length cap] w fun e w' => e = .returned (.int .i64 ((gapS a l).1 : Nat)) ∧ Below w.heap.size w w' := by
  have H := Lib.hid h
  clear h
  go_enter Try.func32, Try.ntmps32
  go_wp2_with fail
  go_loopw [5, 6, 11] (fun L N i wr => ∃ k : Nat, k ≤ l.length ∧ i = .int .i64 (k : Int) ∧ L = .int .i64 ((gapS a (l.take k)).1 : Nat) ∧ N = .int .i64 ((gapS a (l.take k)).2 : Nat) ∧ Below w.heap.size w wr) (fun _ _ i _ => l.length + 1 - (intOf i).toNat)
  case atStart => exact ⟨0, Nat.zero_le _, rfl, rfl, rfl, Below.refl _ _⟩
  case round =>
    obtain ⟨k, hk, rfl, rfl, rfl, hB⟩ := hrel
    by_cases hlt : k < l.length
    · obtain ⟨ev, hev⟩ : ∃ e, l[k]? = some e := ⟨_, List.getElem?_eq_getElem hlt⟩
      have HT1 := Lib.hid (show (gapS a (l.take (k + 1))).1 = max (gapS a (l.take k)).1 (if isP a ev then 0 else (gapS a (l.take k)).2 + 1) from by rw [gap_take a l k ev hev]; rfl)
      have HT2 := Lib.hid (show (gapS a (l.take (k + 1))).2 = if isP a ev then 0 else (gapS a (l.take k)).2 + 1 from by rw [gap_take a l k ev hev]; rfl)
      have hbd := gap_le a (l.take k)
      rw [List.length_take] at hbd
      obtain ⟨g, hA, hg, c0, c1, c2, c3, c4, c5, c6, c7, c8, c9, c10, c11⟩ := H.out.cells k ev hev
      obtain ⟨ek, ex, en⟩ := ev
      dsimp only at c0 c1 c2
      have d0 := (hB.cell (p := ⟨g, k * 12, none⟩) hg).trans c0
      have d1 := (hB.cell (p := ⟨g, k * 12 + 1, none⟩) hg).trans c1
      have d2 := (hB.cell (p := ⟨g, k * 12 + 2, none⟩) hg).trans c2
      have d3 := (hB.cell (p := ⟨g, k * 12 + 3, none⟩) hg).trans c3
      have d4 := (hB.cell (p := ⟨g, k * 12 + 4, none⟩) hg).trans c4
      have d5 := (hB.cell (p := ⟨g, k * 12 + 5, none⟩) hg).trans c5
      have d6 := (hB.cell (p := ⟨g, k * 12 + 6, none⟩) hg).trans c6
      have d7 := (hB.cell (p := ⟨g, k * 12 + 7, none⟩) hg).trans c7
      have d8 := (hB.cell (p := ⟨g, k * 12 + 8, none⟩) hg).trans c8
      have d9 := (hB.cell (p := ⟨g, k * 12 + 9, none⟩) hg).trans c9
      have d10 := (hB.cell (p := ⟨g, k * 12 + 10, none⟩) hg).trans c10
      have d11 := (hB.cell (p := ⟨g, k * 12 + 11, none⟩) hg).trans c11
      subst hA
      have hs := hB.size
      have k0 : (0 : Int) ≤ (k : Int) := by omega
      have k1 : (k : Int) < (l.length : Int) := by omega
      have k2 : (l.length : Int) ≤ 100000 := by omega
      generalize (gapS a (l.take k)).1 = L at *
      generalize (gapS a (l.take k)).2 = M at *
      have m0 : (0 : Int) ≤ (M : Int) := by omega
      have m1 : (M : Int) ≤ 100000 := by omega
      clear c0 c1 c2 c3 c4 c5 c6 c7 c8 c9 c10 c11 hbd
      go_wp2_with fail
      refine (picks_is ek ex en a _).mono ?_
      rintro e w2 ⟨rfl, hb2⟩
      have hB2 := Below.step (hB.alloc hs _) hb2
      clear hb2 hB d0 d1 d2 d3 d4 d5 d6 d7 d8 d9 d10 d11
      have m2 : (0 : Int) ≤ (L : Int) := by omega
      generalize isP a (ek, ex, en) = b at *
      cases b with
      | true =>
        have h1 := HT1.out
        have h2 := HT2.out
        simp only [if_true, Nat.max_zero, Nat.zero_le, Nat.max_eq_left] at h1 h2
        have HH := Lib.hid (And.intro h1 h2)
        clear h1 h2 HT1 HT2
        go_wp2_with fail
        go_roundw
        case rel => exact ⟨k + 1, by omega, by go_num, by rw [HH.out.1], by rw [HH.out.2]; rfl, hB2⟩
        case measure => simp [intOf]; omega
      | false =>
        have h1 := HT1.out
        have h2 := HT2.out
        simp only [Bool.false_eq_true, if_false] at h1 h2
        have HH := Lib.hid (And.intro h1 h2)
        clear h1 h2 HT1 HT2
        go_wp2_with fail
        go_roundw
        case rel => exact ⟨k + 1, by omega, by go_num, by rw [HH.out.1]; go_num, by rw [HH.out.2]; go_num, hB2⟩
        case measure => simp [intOf]; omega
    · obtain rfl : k = l.length := by omega
      have hd : decide ((l.length : Int) < (l.length : Int)) = false := decide_eq_false (by omega)
      go_wp2_with fail
      go_ret
      exact ⟨by first | rfl | (rw [List.take_length]; rfl), hB⟩
set_option maxHeartbeats 2000000 in
theorem fair_yes (p c n b r f g win : Int) (m : Nat) (A : Option Addr) (cap : Nat) (l : List Ev) (w : World) (h : EAt w A l) (hl : l.length ≤ 100000) (hm : (m : Int) = p + 2 * (n * b)) (hnb : 1 ≤ n * b ∧ n * b ≤ 12) (hp : 1 ≤ p ∧ p ≤ 6) (hwin : 1 ≤ win ∧ win ≤ 1000)
    (hok : ∀ a : Nat, a < m → ((gapS (a : Int) l).1 : Int) < win) :
    Calls Try.prog 33 #[.agg #[.int .i64 p, .int .i64 c, .int .i64 n, .int .i64 b, .int .i64 r, .int .i64 f, .int .i64 g], .int .i64 win, .slice A l.length cap] w fun e w' => e = .returned (.bool true) ∧ Below w.heap.size w w' := by
  have H := Lib.hid h
  have HOK := Lib.hid hok
  have HAG := Lib.hid (fun W => show Calls Try.prog 15 #[.agg #[.int .i64 p, .int .i64 c, .int .i64 n, .int .i64 b, .int .i64 r, .int .i64 f, .int .i64 g]] W (fun e w' => e = .returned (.int .i64 (m : Int)) ∧ Below W.heap.size W w') from by rw [hm]; exact agents_i p c n b r f g W hnb hp)
  have m1 : m ≤ 30 := by omega
  obtain ⟨w1, w2⟩ := hwin
  clear h hok hm hnb hp
  go_enter Try.func33, Try.ntmps33
  go_wp2_with fail
  refine (HAG.out _).mono ?_
  rintro e v1 ⟨rfl, hb1⟩
  have hB1 : Below w.heap.size w v1 := Below.step (by go_grown) hb1
  clear hb1
  go_wp2_with fail
  go_loopw [10] (fun i wr => ∃ k : Nat, k ≤ m ∧ i = .int .i64 (k : Int) ∧ Below w.heap.size w wr) (fun i _ => m + 1 - (intOf i).toNat)
  case atStart => exact ⟨0, Nat.zero_le _, rfl, hB1⟩
  case round =>
    clear hB1
    obtain ⟨k, hk, rfl, hB⟩ := hrel
    by_cases hlt : k < m
    · have k0 : (0 : Int) ≤ (k : Int) := by omega
      have k1 : (k : Int) < (m : Int) := by omega
      have k2 : (m : Int) ≤ 30 := by omega
      have HE := Lib.hid (H.out.below hB)
      have hg := HOK.out k hlt
      have HGP := Lib.hid (fun W (h : EAt W A l) => gap_is (k : Int) A cap l W h hl)
      generalize ((gapS (k : Int) l).1 : Nat) = G at *
      go_wp2_with fail
      refine (HGP.out _ HE.out).mono ?_
      rintro e w3 ⟨rfl, hb3⟩
      have hB3 := Below.step hB hb3
      have hx : decide (win ≤ (G : Int)) = false := decide_eq_false (by omega)
      have hmx : max (1 : Int) win = win := by omega
      clear hb3
      go_wp2_with fail
      go_roundw
      case rel => exact ⟨k + 1, by omega, by go_num, hB3⟩
      case measure => simp [intOf]; omega
    · obtain rfl : m = k := by omega
      have hd : decide ((m : Int) < (m : Int)) = false := decide_eq_false (by omega)
      go_wp2_with fail
      go_ret
      exact ⟨rfl, hB⟩
set_option maxHeartbeats 2000000 in
theorem fair_no (p c n b r f g win : Int) (m : Nat) (A : Option Addr) (cap : Nat) (l : List Ev) (w : World) (h : EAt w A l) (hl : l.length ≤ 100000) (hm : (m : Int) = p + 2 * (n * b)) (hnb : 1 ≤ n * b ∧ n * b ≤ 12) (hp : 1 ≤ p ∧ p ≤ 6) (hwin : 1 ≤ win ∧ win ≤ 1000)
    (hbad : win ≤ ((gapS (0 : Int) l).1 : Int)) :
    Calls Try.prog 33 #[.agg #[.int .i64 p, .int .i64 c, .int .i64 n, .int .i64 b, .int .i64 r, .int .i64 f, .int .i64 g], .int .i64 win, .slice A l.length cap] w fun e w' => e = .returned (.bool false) ∧ Below w.heap.size w w' := by
  have H := Lib.hid h
  have HAG := Lib.hid (fun W => show Calls Try.prog 15 #[.agg #[.int .i64 p, .int .i64 c, .int .i64 n, .int .i64 b, .int .i64 r, .int .i64 f, .int .i64 g]] W (fun e w' => e = .returned (.int .i64 (m : Int)) ∧ Below W.heap.size W w') from by rw [hm]; exact agents_i p c n b r f g W hnb hp)
  have m1 : m ≤ 30 := by omega
  have m0 : (0 : Int) < (m : Int) := by omega
  obtain ⟨w1, w2⟩ := hwin
  have HGP := Lib.hid (fun W (h : EAt W A l) => gap_is (0 : Int) A cap l W h hl)
  generalize ((gapS (0 : Int) l).1 : Nat) = G at *
  have hx : decide (win ≤ (G : Int)) = true := decide_eq_true hbad
  have hmx : max (1 : Int) win = win := by omega
  clear h hm hnb hp
  go_enter Try.func33, Try.ntmps33
  go_wp2_with fail
  refine (HAG.out _).mono ?_
  rintro e v1 ⟨rfl, hb1⟩
  have hB1 : Below w.heap.size w v1 := Below.step (by go_grown) hb1
  clear hb1
  go_wp2_with fail
  go_loopw [10] (fun i wr => i = .int .i64 0 ∧ Below w.heap.size w wr) (fun _ _ => 0)
  case atStart => exact ⟨rfl, hB1⟩
  case round =>
    clear hB1
    obtain ⟨rfl, hB⟩ := hrel
    have HE := Lib.hid (H.out.below hB)
    go_wp2_with fail
    refine (HGP.out _ HE.out).mono ?_
    rintro e w3 ⟨rfl, hb3⟩
    have hB3 := Below.step hB hb3
    clear hb3
    go_wp2_with fail
    all_goals first | (exfalso; omega) | (go_ret; exact ⟨rfl, hB3⟩)
theorem run_make_rowN {P : Program} (t e : TypeId) (i : TypeInfo) (z : Value) (ht : P.underlying t = some (.slice e)) (hi : P.info? e = some i) (hz : i.zero = some z)
    (kl kc : IntKind) (n c : Nat) (hnc : n ≤ c) (hbytes : i.bytes * c ≤ 281474976710656) (h63 : c ≤ 9223372036854775807) (w : World) :
    (Instr.makeSlice t (.int kl (n : Int)) (.int kc (c : Int))).run P w = .ok (.slice (some ⟨w.heap.size, 0, none⟩) n c) (w.alloc (.cells (madeCells z.cells (c * i.size)) e)) := by
  have hb : (i.bytes : Int) * (c : Int) ≤ 281474976710656 := by
    have h : ((i.bytes * c : Nat) : Int) ≤ 281474976710656 := by omega
    rwa [Int.natCast_mul] at h
  have hr := run_make (P := P) w t e i z ht hi hz kl kc n c (by omega) (by omega) hb (by omega)
  simp only [Int.toNat_natCast] at hr
  exact hr
theorem infoI : (Try.prog.info? 3).map (fun i => (i.zero, i.size, i.bytes)) = some (some (.int .i64 0), 1, 8) := by kernel_rfl
theorem makeI (n : Nat) (hn : n ≤ 64) (W : World) : (Instr.makeSlice 35 (.int .i64 (n : Int)) (.int .i64 (n : Int))).run Try.prog W = .ok (.slice (some ⟨W.heap.size, 0, none⟩) n n) (W.alloc (.cells (madeCells (Value.int .i64 0).cells (n * 1)) 3)) := by
  obtain ⟨i0, hi, hz0, hz1, hz2⟩ := info_parts infoI
  have h := run_make_rowN (P := Try.prog) 35 3 i0 (.int .i64 0) Try.underlying35 hi hz0 .i64 .i64 n n (Nat.le_refl _) (by rw [hz2]; omega) (by omega) W
  rw [hz1] at h
  exact h
/-- A row of counts in the call's own block. -/
def Cts (w : World) (O m : Nat) (f : Nat → Nat) : Prop := ∃ cs : Array Value, w.heap[O]? = some (.cells cs 3 (0, 0)) ∧ cs.size = m ∧ ∀ j, j < m → cs[j]? = some (.int .i64 ((f j : Nat) : Int))
theorem Cts.below {w w' : World} {O m : Nat} {f : Nat → Nat} (h : Cts w O m f) (hb : Below w.heap.size w w') : Cts w' O m f := by
  obtain ⟨cs, h1, h2, h3⟩ := h
  exact ⟨cs, (hb.block O (blk_lt h1)).trans h1, h2, h3⟩
theorem Cts.cell {w : World} {O m : Nat} {f : Nat → Nat} (h : Cts w O m f) (j : Nat) (hj : j < m) : w.cell? ⟨O, j, none⟩ = some (.int .i64 ((f j : Nat) : Int)) ∧ w.frozen? ⟨O, j, none⟩ = false ∧ O < w.heap.size := by
  obtain ⟨cs, h1, h2, h3⟩ := h
  exact ⟨by rw [cell_of_row _ _ _ _ _ _ h1]; exact h3 j hj, blk_frozen h1 j, blk_lt h1⟩
theorem Cts.set {w : World} {O m : Nat} {f : Nat → Nat} (h : Cts w O m f) (j : Nat) (hj : j < m) (x : Nat) : Cts (w.setCell ⟨O, j, none⟩ (.int .i64 (x : Int))) O m (fun i => if i = j then x else f i) := by
  obtain ⟨cs, h1, h2, h3⟩ := h
  refine ⟨_, blk_set h1 j _, by rw [Array.size_setIfInBounds]; exact h2, fun i hi => ?_⟩
  by_cases hij : i = j
  · subst hij
    rw [Array.getElem?_setIfInBounds_self_of_lt (by omega)]
    simp
  · rw [Array.getElem?_setIfInBounds_ne (fun e => hij e.symm), h3 i hi]; dsimp only; rw [if_neg hij]
theorem Cts.ext {w : World} {O m : Nat} {f g : Nat → Nat} (h : Cts w O m f) (hf : ∀ j, j < m → f j = g j) : Cts w O m g := by
  obtain ⟨cs, h1, h2, h3⟩ := h
  exact ⟨cs, h1, h2, fun j hj => by rw [h3 j hj, hf j hj]⟩
end Go.Proofs.Ytdlgpbmeeiakdaa

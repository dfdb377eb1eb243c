/-
  Contracts of Crossing, and of the document's Check, Band and Crosses.
-/
import Derived.Test.YtcbhbdadahlbfaaRows
import Derived.WalkKit
import Derived.ProofKit
import Derived.OpenShut
import Derived.ShutString
import Derived.Below
import Derived.Outline
import Derived.WalkLawsBesides
import Derived.WalkSpells
import Derived.Handy
import Derived.Deep.QuietTactic
import Derived.BigQuiet
import Derived.RegionTactic
import Derived.ChangeAlike
import Derived.Lib.Hide
import Derived.Laws.Rows
import Derived.Laws.Tables
import Derived.Laws.CopyOwn
import Derived.Deep.WholeRow
import Derived.Deep.LoopGhost
import Derived.Laws.BitsAllLaws
import Derived.Laws.BitsLemmas
import Derived.IntWalk
import Derived.Test.YtcbhbdadahlbfaaKit
import Derived.Test.YtcbhbdadahlbfaaLay
import Derived.Test.YtcbhbdadahlbfaaApp
import Derived.Test.YtcbhbdadahlbfaaRules
namespace Go.Proofs.Ytcbhbdadahlbfaa
open Go.ChangeShapes Go.WideShapes Go.ChangeAt Go.RowKit
theorem tinfo3 : (Try.prog.info? 3).map (fun i => (i.zero, i.size, i.bytes)) = some (some (.int .i64 0), 1, 8) := by kernel_rfl
theorem ints_one (xs : List Int) : ∀ u ∈ xs.map (Value.int .i64), u.oneCell' = true := by
  intro u hu
  obtain ⟨x, _, rfl⟩ := List.mem_map.1 hu
  rfl
theorem reads_new (w : World) (x : Int) : Reads (w.alloc (.cells #[.int .i64 x] 3)) (w.heap.size + 1) 1 (some ⟨w.heap.size, 0, none⟩) 1 ([x].map (Value.int .i64)) := by
  refine ⟨rfl, fun _ => ⟨_, rfl, by show w.heap.size < w.heap.size + 1; omega, fun j u hu => ?_⟩⟩
  match j, hu with
  | 0, hu =>
    simp at hu
    subst hu
    simp [go_sem]
/-- The bands from nothing up to one. -/
def ups : Nat → List Int
  | 0 => []
  | k + 1 => ups k ++ [(k : Int)]
theorem ups_len (k : Nat) : (ups k).length = k := by
  induction k with
  | zero => rfl
  | succ k ih => simp [ups, ih]
/-- A row of the call's own. -/
def Row (w : World) (L : List Int) (e : Ending) (w' : World) : Prop := ∃ v, e = .returned v ∧ w'.ownsRow w.heap.size 3 1 v L.length (L.map (Value.int .i64)) ∧ Below w.heap.size w w'
set_option maxRecDepth 100000 in
set_option maxHeartbeats 4000000 in
theorem crossing_buy (p c n b r f g x : Int) (o : Nat) (w : World) (hb : 1 ≤ b ∧ b ≤ 4) (hx : 1 ≤ x ∧ x ≤ 9999) (ho : (x - 1) * b / 9999 = (o : Int)) (ho4 : o < 4) : Calls Try.prog 37 #[.agg #[.int .i64 p, .int .i64 c, .int .i64 n, .int .i64 b, .int .i64 r, .int .i64 f, .int .i64 g], .int .i64 0, .int .i64 x] w (Row w (ups (o + 1))) := by
  obtain ⟨i0, hi, hz0, hz1, hz2⟩ := info_parts tinfo3
  have HI := Lib.hid hi
  have HZ0 := Lib.hid hz0
  have HZ1 := Lib.hid hz1
  have HZ2 := Lib.hid hz2
  have HBD := Lib.hid (fun W => by have h := band_ok p c n b r f g x hb.1 hb.2 hx.1 hx.2 W; rw [ho] at h; exact h)
  have hb1 := hb.1
  have hb2 := hb.2
  clear hi hz0 hz1 hz2 ho hb hx
  go_enter Try.func37, Try.ntmps37
  go_wp2_with fail
  refine (HBD.out _).mono ?_
  rintro e w1 ⟨rfl, hw1⟩
  have hB1 : Below w.heap.size w w1 := Below.step (by go_grown) hw1
  clear hw1
  go_wp2_with fail
  go_loopw [8, 9] (fun v i wr => ∃ k : Nat, k ≤ o + 1 ∧ i = .int .i64 k ∧ Hid (wr.ownsRow w.heap.size 3 1 v (ups k).length ((ups k).map (Value.int .i64))) ∧ Below w.heap.size w wr) (fun _ i _ => o + 1 - (intOf i).toNat)
  case atStart => exact ⟨0, Nat.zero_le _, rfl, World.ownsRow_nil _ _ _ _, hB1⟩
  case round =>
    obtain ⟨k, hk, rfl, HO, hB⟩ := hrel
    have hs := hB.size
    by_cases hlt : k < o + 1
    · have hl := ups_len k
      have N1 := Lib.hid (show (ups k).length + 1 ≤ maxLen by rw [hl]; unfold maxLen; omega)
      have N2 := Lib.hid (show ((ups k).length + 1) * 8 ≤ 140737488355328 by rw [hl]; omega)
      have HR := Lib.hid (reads_new wr (k : Int))
      have HO1 := Lib.hid (HO.out.alloc (Obj.cells #[.int .i64 (k : Int)] 3))
      have N3 := Lib.hid (show w.heap.size ≤ (wr.alloc (Obj.cells #[.int .i64 (k : Int)] 3)).heap.size by simp; omega)
      have hB2 : Below w.heap.size w (wr.alloc (Obj.cells #[.int .i64 (k : Int)] 3)) := hB.alloc hs _
      clear hl
      go_wp2_with (at_builtin; refine wpList_append_any _ rfl (.tmp 24) (.tmp 26) 22 rfl w.heap.size 3 i0 (.int .i64 0) 1 8 Try.underlying22 HI.out HZ0.out HZ1.out HZ2.out rfl (by decide) _ (ups k).length ((ups k).map (Value.int .i64)) rfl HO1.out _ (some ⟨wr.heap.size, 0, none⟩) 1 1 ([(k : Int)].map (Value.int .i64)) rfl HR.out (ints_one [(k : Int)]) N1.out N2.out N3.out ?_; intro v3 w3 hown3 hgrow3 hblk3; have HP := Lib.hid (And.intro hown3 hgrow3); clear hown3 hgrow3 hblk3)
      go_roundw
      case rel => exact ⟨k + 1, by omega, by go_num, by have h := HP.out.1; refine Lib.hid ?_; simpa [ups] using h, Below.grown hB2 HP.out.2 (by simp; omega) (fun g e => (HO1.out.lt g e).1)⟩
      case measure => simp [intOf]; omega
    · obtain rfl : k = o + 1 := by omega
      go_wp2
      go_ret
      exact ⟨_, rfl, HO.out, hB⟩
set_option maxRecDepth 100000 in
set_option maxHeartbeats 2000000 in
theorem rband_ok (p c n b r f g x : Int) (o : Nat) (w : World) (hb : 1 ≤ b ∧ b ≤ 4) (hx : 1 ≤ x ∧ x ≤ 9999) (ho : (x - 1) * b / 9999 = (o : Int)) : Calls Try.prog 40 #[.agg #[.int .i64 p, .int .i64 c, .int .i64 n, .int .i64 b, .int .i64 r, .int .i64 f, .int .i64 g], .int .i64 x] w fun e w' => e = .returned (.int .i64 (o : Int)) ∧ Below w.heap.size w w' := by
  obtain ⟨b1, b2⟩ := hb
  obtain ⟨x1, x2⟩ := hx
  have m0 : 0 ≤ (x - 1) * b := by rcases (show b = 1 ∨ b = 2 ∨ b = 3 ∨ b = 4 by omega) with rfl | rfl | rfl | rfl <;> omega
  have m1 : (x - 1) * b ≤ 40000 := by rcases (show b = 1 ∨ b = 2 ∨ b = 3 ∨ b = 4 by omega) with rfl | rfl | rfl | rfl <;> omega
  have o1 : (o : Int) * 9999 ≤ (x - 1) * b := by omega
  have o2 : (x - 1) * b < ((o : Int) + 1) * 9999 := by omega
  have o3 : (o : Int) ≤ 4 := by omega
  have HO := Lib.hid ho
  clear ho
  go_enter Try.func40, Try.ntmps40
  go_wp2_with fail
  go_loop [5] (fun i => ∃ k : Nat, k ≤ o ∧ i = .int .i64 k) (fun i => o - (intOf i).toNat)
  case atStart => exact ⟨0, Nat.zero_le _, rfl⟩
  case round =>
    obtain ⟨k, hk, rfl⟩ := hrel
    by_cases hlt : k < o
    · have t1 : ((k : Int) + 1) * 9999 ≤ (x - 1) * b := by omega
      go_wp2
      go_round
      case rel => exact ⟨k + 1, by omega, by go_num⟩
      case measure => simp [intOf]; omega
    · obtain rfl : k = o := by omega
      go_wp2
      go_ret
      exact ⟨rfl, by go_grown⟩
set_option maxRecDepth 100000 in
set_option maxHeartbeats 2000000 in
theorem rband_none (p c n b r f g x : Int) (w : World) (hx : x < 1 ∨ 9999 < x) : Calls Try.prog 40 #[.agg #[.int .i64 p, .int .i64 c, .int .i64 n, .int .i64 b, .int .i64 r, .int .i64 f, .int .i64 g], .int .i64 x] w fun e w' => e = .returned (.int .i64 (-1)) ∧ Below w.heap.size w w' := by
  rcases hx with h | h
  · go_enter Try.func40, Try.ntmps40
    go_wp2
    go_ret
    exact ⟨rfl, by go_grown⟩
  · have h1 : ¬ x < 1 := by omega
    go_enter Try.func40, Try.ntmps40
    go_wp2
    go_ret
    exact ⟨rfl, by go_grown⟩
set_option maxRecDepth 100000 in
set_option maxHeartbeats 2000000 in
theorem band_none (p c n b r f g x : Int) (w : World) (hx : x < 1 ∨ 9999 < x) : Calls Try.prog 39 #[.agg #[.int .i64 p, .int .i64 c, .int .i64 n, .int .i64 b, .int .i64 r, .int .i64 f, .int .i64 g], .int .i64 x] w fun e w' => e = .returned (.int .i64 (-1)) ∧ Below w.heap.size w w' := by
  rcases hx with h | h
  · go_enter Try.func39, Try.ntmps39
    go_wp2
    go_ret
    exact ⟨rfl, by go_grown⟩
  · have h1 : ¬ x < 1 := by omega
    go_enter Try.func39, Try.ntmps39
    go_wp2
    go_ret
    exact ⟨rfl, by go_grown⟩
/-- The bands from the last one down. -/
def dns (t : Int) : Nat → List Int
  | 0 => []
  | k + 1 => dns t k ++ [t - (k : Int)]
theorem dns_len (t : Int) (k : Nat) : (dns t k).length = k := by
  induction k with
  | zero => rfl
  | succ k ih => simp [dns, ih]
set_option maxRecDepth 100000 in
set_option maxHeartbeats 4000000 in
theorem crossing_sell (p c n b r f g x : Int) (o m : Nat) (w : World) (hb : 1 ≤ b ∧ b ≤ 4) (hx : 1 ≤ x ∧ x ≤ 9999) (ho : (x - 1) * b / 9999 = (o : Int)) (hm : (o : Int) + (m : Int) = b) : Calls Try.prog 37 #[.agg #[.int .i64 p, .int .i64 c, .int .i64 n, .int .i64 b, .int .i64 r, .int .i64 f, .int .i64 g], .int .i64 1, .int .i64 x] w (Row w (dns (b - 1) m)) := by
  obtain ⟨i0, hi, hz0, hz1, hz2⟩ := info_parts tinfo3
  have HI := Lib.hid hi
  have HZ0 := Lib.hid hz0
  have HZ1 := Lib.hid hz1
  have HZ2 := Lib.hid hz2
  have HBD := Lib.hid (fun W => by have h := band_ok p c n b r f g x hb.1 hb.2 hx.1 hx.2 W; rw [ho] at h; exact h)
  have HM := Lib.hid hm
  have hb1 := hb.1
  have hb2 := hb.2
  have hm1 : (o : Int) + (m : Int) ≤ b := by omega
  have hm2 : b ≤ (o : Int) + (m : Int) := by omega
  clear hi hz0 hz1 hz2 ho hb hx hm
  go_enter Try.func37, Try.ntmps37
  go_wp2_with fail
  refine (HBD.out _).mono ?_
  rintro e w1 ⟨rfl, hw1⟩
  have hB1 : Below w.heap.size w w1 := Below.step (by go_grown) hw1
  obtain ⟨hc1, hf1⟩ := bcell hw1
  simp only [World.size_alloc] at hc1 hf1
  clear hw1
  go_wp2_with fail
  go_loopw [8, 10] (fun v i wr => ∃ k : Nat, k ≤ m ∧ i = .int .i64 (b - 1 - (k : Int)) ∧ Hid (wr.ownsRow w.heap.size 3 1 v (dns (b - 1) k).length ((dns (b - 1) k).map (Value.int .i64))) ∧ Below w.heap.size w wr) (fun _ i _ => (intOf i + 1 - o).toNat)
  case atStart => exact ⟨0, Nat.zero_le _, by simp, World.ownsRow_nil _ _ _ _, hB1⟩
  case round =>
    clear hc1 hf1
    obtain ⟨k, hk, rfl, HO, hB⟩ := hrel
    have hs := hB.size
    by_cases hlt : k < m
    · have hl := dns_len (b - 1) k
      have t1 : (o : Int) ≤ b - 1 - (k : Int) := by omega
      have N1 := Lib.hid (show (dns (b - 1) k).length + 1 ≤ maxLen by rw [hl]; unfold maxLen; omega)
      have N2 := Lib.hid (show ((dns (b - 1) k).length + 1) * 8 ≤ 140737488355328 by rw [hl]; omega)
      have HR := Lib.hid (reads_new wr (b - 1 - (k : Int)))
      have HO1 := Lib.hid (HO.out.alloc (Obj.cells #[.int .i64 (b - 1 - (k : Int))] 3))
      have N3 := Lib.hid (show w.heap.size ≤ (wr.alloc (Obj.cells #[.int .i64 (b - 1 - (k : Int))] 3)).heap.size by simp; omega)
      have hB2 : Below w.heap.size w (wr.alloc (Obj.cells #[.int .i64 (b - 1 - (k : Int))] 3)) := hB.alloc hs _
      clear hl
      go_wp2_with (at_builtin; refine wpList_append_any _ rfl (.tmp 39) (.tmp 41) 22 rfl w.heap.size 3 i0 (.int .i64 0) 1 8 Try.underlying22 HI.out HZ0.out HZ1.out HZ2.out rfl (by decide) _ (dns (b - 1) k).length ((dns (b - 1) k).map (Value.int .i64)) rfl HO1.out _ (some ⟨wr.heap.size, 0, none⟩) 1 1 ([b - 1 - (k : Int)].map (Value.int .i64)) rfl HR.out (ints_one [b - 1 - (k : Int)]) N1.out N2.out N3.out ?_; intro v3 w3 hown3 hgrow3 hblk3; have HP := Lib.hid (And.intro hown3 hgrow3); clear hown3 hgrow3 hblk3)
      go_roundw
      case rel => exact ⟨k + 1, by omega, by congr 1; omega, by have h := HP.out.1; refine Lib.hid ?_; simpa [dns] using h, Below.grown hB2 HP.out.2 (by simp; omega) (fun g e => (HO1.out.lt g e).1)⟩
      case measure => simp [intOf]; omega
    · obtain rfl : k = m := by omega
      have t1 : ¬ (o : Int) ≤ b - 1 - (k : Int) := by omega
      go_wp2
      go_ret
      exact ⟨_, rfl, HO.out, hB⟩
set_option maxRecDepth 100000 in
set_option maxHeartbeats 4000000 in
theorem crossing_other (p c n b r f g s x : Int) (w : World) (hb : 1 ≤ b ∧ b ≤ 4) (hs0 : s ≠ 0) (hs1 : s ≠ 1) (hx : 1 ≤ x ∧ x ≤ 9999) : Calls Try.prog 37 #[.agg #[.int .i64 p, .int .i64 c, .int .i64 n, .int .i64 b, .int .i64 r, .int .i64 f, .int .i64 g], .int .i64 s, .int .i64 x] w (Row w []) := by
  have HBD := Lib.hid (fun W => band_ok p c n b r f g x hb.1 hb.2 hx.1 hx.2 W)
  have e0 : (s == 0) = false := by rw [beq_eq_false_iff_ne]; exact hs0
  have e1 : (s == 1) = false := by rw [beq_eq_false_iff_ne]; exact hs1
  have m0 : 0 ≤ (x - 1) * b / 9999 := by obtain ⟨h1, h2⟩ := hb; rcases (show b = 1 ∨ b = 2 ∨ b = 3 ∨ b = 4 by omega) with rfl | rfl | rfl | rfl <;> omega
  generalize (x - 1) * b / 9999 = o at *
  clear hb hs0 hs1 hx
  go_enter Try.func37, Try.ntmps37
  go_wp2_with fail
  refine (HBD.out _).mono ?_
  rintro e w1 ⟨rfl, hw1⟩
  have hB1 : Below w.heap.size w w1 := Below.step (by go_grown) hw1
  clear hw1
  go_wp2
  go_ret
  exact ⟨_, rfl, World.ownsRow_nil _ _ _ _, hB1⟩
set_option maxRecDepth 100000 in
set_option maxHeartbeats 4000000 in
theorem crossing_none (p c n b r f g s x : Int) (w : World) (hx : x < 1 ∨ 9999 < x) : Calls Try.prog 37 #[.agg #[.int .i64 p, .int .i64 c, .int .i64 n, .int .i64 b, .int .i64 r, .int .i64 f, .int .i64 g], .int .i64 s, .int .i64 x] w (Row w []) := by
  have HBD := Lib.hid (fun W => band_none p c n b r f g x W hx)
  clear hx
  go_enter Try.func37, Try.ntmps37
  go_wp2_with fail
  refine (HBD.out _).mono ?_
  rintro e w1 ⟨rfl, hw1⟩
  have hB1 : Below w.heap.size w w1 := Below.step (by go_grown) hw1
  clear hw1
  go_wp2
  go_ret
  exact ⟨_, rfl, World.ownsRow_nil _ _ _ _, hB1⟩
theorem own_low {w : World} {base n : Nat} {v : Value} {xs : List Value} (h : w.ownsRow (base + 1) 3 1 v n xs) : w.ownsRow base 3 1 v n xs := by
  refine ⟨h.1, ?_⟩
  rcases h.2 with h0 | ⟨g, cap, cur, e1, e2, rest⟩
  · exact .inl h0
  · exact .inr ⟨g, cap, cur, e1, by omega, rest⟩
set_option maxRecDepth 100000 in
set_option maxHeartbeats 4000000 in
theorem crosses_buy (p c n b r f g x : Int) (o m : Nat) (w : World) (hb : 1 ≤ b ∧ b ≤ 4) (hx : 1 ≤ x ∧ x ≤ 9999) (ho : (x - 1) * b / 9999 = (o : Int)) (hm : (m : Int) = (o : Int) + 1 ∧ (m : Int) ≤ b) : Calls Try.prog 38 #[.agg #[.int .i64 p, .int .i64 c, .int .i64 n, .int .i64 b, .int .i64 r, .int .i64 f, .int .i64 g], .int .i64 0, .int .i64 x] w (Row w (ups m)) := by
  obtain ⟨i0, hi, hz0, hz1, hz2⟩ := info_parts tinfo3
  have HI := Lib.hid hi
  have HZ0 := Lib.hid hz0
  have HZ1 := Lib.hid hz1
  have HZ2 := Lib.hid hz2
  have HBD := Lib.hid (fun W => rband_ok p c n b r f g x o W hb hx ho)
  obtain ⟨B, hB0⟩ : ∃ B : Nat, (B : Int) = b := ⟨b.toNat, by omega⟩
  have hb1 := hb.1
  have hb2 := hb.2
  have hm1 : (m : Int) ≤ (o : Int) + 1 := by omega
  have hm2 : (o : Int) + 1 ≤ (m : Int) := by omega
  have hm3 : (m : Int) ≤ b := by omega
  have hB1' : (B : Int) ≤ b := by omega
  have hB2' : b ≤ (B : Int) := by omega
  have o0 : 0 ≤ (o : Int) := Int.natCast_nonneg o
  clear hi hz0 hz1 hz2 ho hb hx hm hB0
  go_enter Try.func38, Try.ntmps38
  go_wp2_with fail
  refine (HBD.out _).mono ?_
  rintro e w1 ⟨rfl, hw1⟩
  have hBB : Below w.heap.size w w1 := Below.step (by go_grown) hw1
  have hc3 : w1.cell? ⟨w.heap.size, 3, none⟩ = some (.int .i64 b) := (hw1.cell (p := ⟨w.heap.size, 3, none⟩) (by simp)).trans (by simp [go_sem])
  have hl0 : w.heap.size < w1.heap.size := by have := hw1.size; simp only [World.size_alloc] at this; omega
  clear hw1
  go_wp2_with fail
  go_loopw [8, 9] (fun v i wr => ∃ k j : Nat, k ≤ B ∧ i = .int .i64 (k : Int) ∧ (k ≤ m → j = k) ∧ (m ≤ k → j = m) ∧ Hid (wr.ownsRow (w.heap.size + 1) 3 1 v (ups j).length ((ups j).map (Value.int .i64))) ∧ Below w.heap.size w wr ∧ w.heap.size < wr.heap.size ∧ wr.cell? ⟨w.heap.size, 3, none⟩ = some (.int .i64 b)) (fun _ i _ => B - (intOf i).toNat)
  case atStart => exact ⟨0, 0, Nat.zero_le _, rfl, fun _ => rfl, fun h => by omega, World.ownsRow_nil _ _ _ _, hBB, hl0, hc3⟩
  case round =>
    clear hc3 hl0
    obtain ⟨k, j, hk, rfl, hj1, hj2, HO, hB, hl2, hcb⟩ := hrel
    have hs := hB.size
    by_cases hlt : k < B
    · have t0 : (k : Int) < b := by omega
      by_cases hkm : k < m
      · obtain rfl : j = k := hj1 (by omega)
        have hl := ups_len j
        have t1 : (j : Int) ≤ (o : Int) := by omega
        clear hj1 hj2
        have N1 := Lib.hid (show (ups j).length + 1 ≤ maxLen by rw [hl]; unfold maxLen; omega)
        have N2 := Lib.hid (show ((ups j).length + 1) * 8 ≤ 140737488355328 by rw [hl]; omega)
        have HR := Lib.hid (reads_new wr ((j : Int)))
        have HO1 := Lib.hid (HO.out.alloc (Obj.cells #[.int .i64 ((j : Int))] 3))
        have N3 := Lib.hid (show w.heap.size + 1 ≤ (wr.alloc (Obj.cells #[.int .i64 ((j : Int))] 3)).heap.size by simp; omega)
        have hB2 : Below w.heap.size w (wr.alloc (Obj.cells #[.int .i64 ((j : Int))] 3)) := hB.alloc hs _
        clear hl
        go_wp2_with (at_builtin; refine wpList_append_any _ rfl (.tmp 48) (.tmp 50) 22 rfl (w.heap.size + 1) 3 i0 (.int .i64 0) 1 8 Try.underlying22 HI.out HZ0.out HZ1.out HZ2.out rfl (by decide) _ (ups j).length ((ups j).map (Value.int .i64)) rfl HO1.out _ (some ⟨wr.heap.size, 0, none⟩) 1 1 ([(j : Int)].map (Value.int .i64)) rfl HR.out (ints_one [(j : Int)]) N1.out N2.out N3.out ?_; intro v3 w3 hown3 hgrow3 hblk3; have HP := Lib.hid (And.intro hown3 hgrow3); clear hown3 hgrow3 hblk3)
        have hcb3 : w3.cell? ⟨w.heap.size, 3, none⟩ = some (.int .i64 b) := (World.cell?_of_block (w := wr.alloc (Obj.cells #[.int .i64 ((j : Int))] 3)) (a := ⟨w.heap.size, 3, none⟩) (HP.out.2.block w.heap.size (by simp; omega) (fun e => by have := (HO1.out.lt _ e.symm).1; omega))).trans ((World.cell?_alloc_lt wr _ ⟨w.heap.size, 3, none⟩ hl2).trans hcb)
        have hl3 : w.heap.size < w3.heap.size := Nat.lt_of_lt_of_le (by simp; omega) HP.out.2.size
        go_roundw
        case rel => exact ⟨j + 1, j + 1, by omega, by go_num, fun _ => rfl, fun _ => by omega, by have h := HP.out.1; refine Lib.hid ?_; simpa [ups] using h, Below.grown hB2 HP.out.2 (by simp; omega) (fun g e => by have := (HO1.out.lt g e).1; omega), hl3, hcb3⟩
        case measure => simp [intOf]; omega
      · obtain rfl : j = m := hj2 (by omega)
        have t1 : decide ((k : Int) ≤ (o : Int)) = false := decide_eq_false (by omega)
        clear hj1 hj2
        go_wp2_with fail
        go_roundw
        case rel => exact ⟨k + 1, j, by omega, by go_num, fun _ => by omega, fun _ => rfl, HO, hB, hl2, hcb⟩
        case measure => simp [intOf]; omega
    · obtain rfl : k = B := by omega
      obtain rfl : j = m := hj2 (by omega)
      have t0 : decide ((k : Int) < b) = false := decide_eq_false (by omega)
      clear hj1 hj2
      go_wp2
      go_ret
      exact ⟨_, rfl, own_low HO.out, hB⟩
set_option maxRecDepth 100000 in
set_option maxHeartbeats 4000000 in
theorem crosses_sell (p c n b r f g x : Int) (o m : Nat) (w : World) (hb : 1 ≤ b ∧ b ≤ 4) (hx : 1 ≤ x ∧ x ≤ 9999) (ho : (x - 1) * b / 9999 = (o : Int)) (hm : (o : Int) + (m : Int) = b) : Calls Try.prog 38 #[.agg #[.int .i64 p, .int .i64 c, .int .i64 n, .int .i64 b, .int .i64 r, .int .i64 f, .int .i64 g], .int .i64 1, .int .i64 x] w (Row w (dns (b - 1) m)) := by
  obtain ⟨i0, hi, hz0, hz1, hz2⟩ := info_parts tinfo3
  have HI := Lib.hid hi
  have HZ0 := Lib.hid hz0
  have HZ1 := Lib.hid hz1
  have HZ2 := Lib.hid hz2
  have HBD := Lib.hid (fun W => rband_ok p c n b r f g x o W hb hx ho)
  obtain ⟨B, hB0⟩ : ∃ B : Nat, (B : Int) = b := ⟨b.toNat, by omega⟩
  have hb1 := hb.1
  have hb2 := hb.2
  have hm1 : (o : Int) + (m : Int) ≤ b := by omega
  have hm2 : b ≤ (o : Int) + (m : Int) := by omega
  have hm3 : (m : Int) ≤ b := by omega
  have hB1' : (B : Int) ≤ b := by omega
  have hB2' : b ≤ (B : Int) := by omega
  have o0 : 0 ≤ (o : Int) := Int.natCast_nonneg o
  clear hi hz0 hz1 hz2 ho hb hx hm hB0
  go_enter Try.func38, Try.ntmps38
  go_wp2_with fail
  refine (HBD.out _).mono ?_
  rintro e w1 ⟨rfl, hw1⟩
  have hBB : Below w.heap.size w w1 := Below.step (by go_grown) hw1
  have hc3 : w1.cell? ⟨w.heap.size, 3, none⟩ = some (.int .i64 b) := (hw1.cell (p := ⟨w.heap.size, 3, none⟩) (by simp)).trans (by simp [go_sem])
  have hl0 : w.heap.size < w1.heap.size := by have := hw1.size; simp only [World.size_alloc] at this; omega
  clear hw1
  go_wp2_with fail
  go_loopw [8, 9] (fun v i wr => ∃ k j : Nat, k ≤ B ∧ i = .int .i64 (k : Int) ∧ (k ≤ m → j = k) ∧ (m ≤ k → j = m) ∧ Hid (wr.ownsRow (w.heap.size + 1) 3 1 v (dns (b - 1) j).length ((dns (b - 1) j).map (Value.int .i64))) ∧ Below w.heap.size w wr ∧ w.heap.size < wr.heap.size ∧ wr.cell? ⟨w.heap.size, 3, none⟩ = some (.int .i64 b)) (fun _ i _ => B - (intOf i).toNat)
  case atStart => exact ⟨0, 0, Nat.zero_le _, rfl, fun _ => rfl, fun h => by omega, World.ownsRow_nil _ _ _ _, hBB, hl0, hc3⟩
  case round =>
    clear hc3 hl0
    obtain ⟨k, j, hk, rfl, hj1, hj2, HO, hB, hl2, hcb⟩ := hrel
    have hs := hB.size
    by_cases hlt : k < B
    · have t0 : (k : Int) < b := by omega
      by_cases hkm : k < m
      · obtain rfl : j = k := hj1 (by omega)
        have hl := dns_len (b - 1) j
        have t1 : (o : Int) ≤ b - 1 - (j : Int) := by omega
        clear hj1 hj2
        have N1 := Lib.hid (show (dns (b - 1) j).length + 1 ≤ maxLen by rw [hl]; unfold maxLen; omega)
        have N2 := Lib.hid (show ((dns (b - 1) j).length + 1) * 8 ≤ 140737488355328 by rw [hl]; omega)
        have HR := Lib.hid (reads_new wr (b - 1 - (j : Int)))
        have HO1 := Lib.hid (HO.out.alloc (Obj.cells #[.int .i64 (b - 1 - (j : Int))] 3))
        have N3 := Lib.hid (show w.heap.size + 1 ≤ (wr.alloc (Obj.cells #[.int .i64 (b - 1 - (j : Int))] 3)).heap.size by simp; omega)
        have hB2 : Below w.heap.size w (wr.alloc (Obj.cells #[.int .i64 (b - 1 - (j : Int))] 3)) := hB.alloc hs _
        clear hl
        go_wp2_with (at_builtin; refine wpList_append_any _ rfl (.tmp 48) (.tmp 50) 22 rfl (w.heap.size + 1) 3 i0 (.int .i64 0) 1 8 Try.underlying22 HI.out HZ0.out HZ1.out HZ2.out rfl (by decide) _ (dns (b - 1) j).length ((dns (b - 1) j).map (Value.int .i64)) rfl HO1.out _ (some ⟨wr.heap.size, 0, none⟩) 1 1 ([b - 1 - (j : Int)].map (Value.int .i64)) rfl HR.out (ints_one [b - 1 - (j : Int)]) N1.out N2.out N3.out ?_; intro v3 w3 hown3 hgrow3 hblk3; have HP := Lib.hid (And.intro hown3 hgrow3); clear hown3 hgrow3 hblk3)
        have hcb3 : w3.cell? ⟨w.heap.size, 3, none⟩ = some (.int .i64 b) := (World.cell?_of_block (w := wr.alloc (Obj.cells #[.int .i64 (b - 1 - (j : Int))] 3)) (a := ⟨w.heap.size, 3, none⟩) (HP.out.2.block w.heap.size (by simp; omega) (fun e => by have := (HO1.out.lt _ e.symm).1; omega))).trans ((World.cell?_alloc_lt wr _ ⟨w.heap.size, 3, none⟩ hl2).trans hcb)
        have hl3 : w.heap.size < w3.heap.size := Nat.lt_of_lt_of_le (by simp; omega) HP.out.2.size
        go_roundw
        case rel => exact ⟨j + 1, j + 1, by omega, by go_num, fun _ => rfl, fun _ => by omega, by have h := HP.out.1; refine Lib.hid ?_; simpa [dns] using h, Below.grown hB2 HP.out.2 (by simp; omega) (fun g e => by have := (HO1.out.lt g e).1; omega), hl3, hcb3⟩
        case measure => simp [intOf]; omega
      · obtain rfl : j = m := hj2 (by omega)
        have t1 : decide ((o : Int) ≤ b - 1 - (k : Int)) = false := decide_eq_false (by omega)
        clear hj1 hj2
        go_wp2_with fail
        go_roundw
        case rel => exact ⟨k + 1, j, by omega, by go_num, fun _ => by omega, fun _ => rfl, HO, hB, hl2, hcb⟩
        case measure => simp [intOf]; omega
    · obtain rfl : k = B := by omega
      obtain rfl : j = m := hj2 (by omega)
      have t0 : decide ((k : Int) < b) = false := decide_eq_false (by omega)
      clear hj1 hj2
      go_wp2
      go_ret
      exact ⟨_, rfl, own_low HO.out, hB⟩
end Go.Proofs.Ytcbhbdadahlbfaa

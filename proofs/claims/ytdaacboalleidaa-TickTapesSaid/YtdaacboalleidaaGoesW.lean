/-
  The walk of TickGoes.
-/
import Derived.Test.YtdaacboalleidaaRows
import Derived.WalkKit
import Derived.ProofKit
import Derived.OpenShut
import Derived.ShutString
import Derived.Below
import Derived.Outline
import Derived.WalkLawsBesides
import Derived.WalkSpells
import Derived.Handy
import Derived.Deep.QuietTactic
import Derived.BigQuiet
import Derived.RegionTactic
import Derived.ChangeAlike
import Derived.Lib.Hide
import Derived.Test.YtdaacboalleidaaKit
import Derived.Test.YtdaacboalleidaaTick
import Derived.Test.YtdaacboalleidaaApp
namespace Go.Proofs.Ytdaacboalleidaa.tickGoes
open Go.ChangeShapes Go.WideShapes Go.ChangeAt Go.RowKit

theorem info3 : (Try.prog.info? 3).map (fun i => (i.zero, i.size, i.bytes)) = some (some (.int .i64 0), 1, 8) := by kernel_rfl
theorem getD_map (xs : List Int) (j : Nat) (u : Value) (h : (xs.map (Value.int .i64))[j]? = some u) : j < xs.length ∧ u = .int .i64 (xs.getD j 0) := by
  rw [List.getElem?_map] at h
  rcases hx : xs[j]? with _ | x
  · rw [hx] at h; cases h
  · rw [hx] at h
    have hj : j < xs.length := (List.getElem?_eq_some_iff.1 hx).1
    simp only [Option.map_some] at h
    exact ⟨hj, by rw [List.getD_eq_getElem?_getD, hx]; injection h with h; exact h.symm⟩
theorem row_reads {w : World} {c : Nat} {A : Option Addr} {xs : List Int} (h : Row w c A xs) : Reads w w.heap.size 1 A xs.length (xs.map (Value.int .i64)) := by
  refine ⟨by simp, fun hn => ?_⟩
  obtain ⟨g, off, rfl, hne, hg, hc⟩ := h.1 hn
  refine ⟨_, rfl, hg, fun j u hu => ?_⟩
  obtain ⟨hj, rfl⟩ := getD_map xs j u hu
  have := hc j hj
  rw [← this]
  unfold Addr.add
  by_cases h0 : j = 0 <;> simp [h0]
theorem own_row {w : World} {base c n : Nat} {v : Value} {xs : List Int} (h : w.ownsRow base 3 1 v n (xs.map (Value.int .i64))) (hc : c < base) (hl : xs.length ≤ 140737488355328)
    (hx : ∀ j, -9223372036854775808 ≤ xs.getD j 0 ∧ xs.getD j 0 ≤ 9223372036854775807) : ∃ A cap, v = .slice A xs.length cap ∧ Row w c A xs := by
  have hn : xs.length = n := by have := h.1; simpa using this
  subst hn
  rcases h.2 with ⟨rfl, h0⟩ | ⟨g, cap, cur, rfl, hg, hh, _⟩
  · rw [h0]
    exact ⟨_, _, rfl, fun hp => absurd hp (by omega), hl, hx⟩
  · refine ⟨_, _, rfl, fun hp => ⟨g, 0, rfl, by omega, ?_, fun j hj => ?_⟩, hl, hx⟩
    · rcases Nat.lt_or_ge g w.heap.size with hlt | hge
      · exact hlt
      · rw [Array.getElem?_eq_none hge] at hh; cases hh
    · have := h.cellAt j (by simpa using hj)
      rw [Nat.zero_add, this, List.getElem?_map, List.getElem?_eq_getElem hj, List.getD_eq_getElem?_getD, List.getElem?_eq_getElem hj]
      rfl
theorem getD_app (xs ys : List Int) (hx : ∀ j, -9223372036854775808 ≤ xs.getD j 0 ∧ xs.getD j 0 ≤ 9223372036854775807) (hy : ∀ j, -9223372036854775808 ≤ ys.getD j 0 ∧ ys.getD j 0 ≤ 9223372036854775807) (j : Nat) :
    -9223372036854775808 ≤ (xs ++ ys).getD j 0 ∧ (xs ++ ys).getD j 0 ≤ 9223372036854775807 := by
  by_cases h : j < xs.length
  · have e : (xs ++ ys).getD j 0 = xs.getD j 0 := by simp only [List.getD_eq_getElem?_getD, List.getElem?_append_left h]
    rw [e]; exact hx j
  · have e : (xs ++ ys).getD j 0 = ys.getD (j - xs.length) 0 := by simp only [List.getD_eq_getElem?_getD, List.getElem?_append_right (by omega : xs.length ≤ j)]
    rw [e]; exact hy _
theorem one_ints (xs : List Int) : ∀ u ∈ xs.map (Value.int .i64), u.oneCell' = true := by
  intro u hu
  obtain ⟨x, _, rfl⟩ := List.mem_map.1 hu
  rfl

theorem grown3 {w2 w3 : World} (h : (w2.alloc (Obj.cells #[] 3)).grownBy w3 (Value.slice (some ⟨w2.heap.size, 0, none⟩) 0 0).ownBlock) : Below w2.heap.size w2 w3 :=
  Below.grown (by go_grown : Below w2.heap.size w2 (w2.alloc (Obj.cells #[] 3))) h (by simp) (fun k e => by simp [Value.ownBlock] at e; omega)
theorem grown4 {w3 w4 : World} {base n : Nat} {v : Value} {xs : List Value} (ho : w3.ownsRow base 3 1 v n xs) (h : w3.grownBy w4 v.ownBlock) (hb : base ≤ w3.heap.size) : Below base w3 w4 :=
  Below.grown (Below.refl _ _) h hb (fun k e => (ho.lt k e).1)
theorem own_app {w : World} {base n : Nat} {v : Value} {xs ys : List Int} (h : w.ownsRow base 3 1 v n (xs.map (Value.int .i64) ++ ys.map (Value.int .i64))) : w.ownsRow base 3 1 v n ((xs ++ ys).map (Value.int .i64)) := by
  rw [List.map_append]; exact h

set_option maxRecDepth 100000 in
set_option maxHeartbeats 4000000 in
theorem main (A B : Option Addr) (cap0 cap1 : Nat) (xs ys : List Int) (u : Int) (w : World) (hl : xs.length + ys.length ≤ 200) (hX : Row w w.heap.size A xs) (hY : Row w w.heap.size B ys) :
    Calls Try.prog 3 #[.slice A xs.length cap0, .slice B ys.length cap1, .int .i64 u] w fun e w' => e = .returned (.bool true) ∧ Below w.heap.size w w' := by
  obtain ⟨i0, hi, hz0, hz1, hz2⟩ := info_parts info3
  have HI := Lib.hid hi
  have HZ0 := Lib.hid hz0
  have HZ1 := Lib.hid hz1
  have HZ2 := Lib.hid hz2
  have HX := Lib.hid hX
  have HY := Lib.hid hY
  clear hi hz0 hz1 hz2 hX hY
  go_enter Try.func3, Try.ntmps3
  go_wp2_with fail
  have hW1 : Below w.heap.size w (w.alloc (Obj.cells #[.int .i64 0] 25)) := by go_grown
  refine (go11 w.heap.size 0 A cap0 xs _ (by omega) (by omega) ⟨by simp [go_sem], by simp [go_sem], World.grownBy.refl _ _, by simp⟩ (HX.out.below hW1 (Nat.le_refl _))).mono ?_
  rintro e w1 ⟨rfl, hC1⟩
  have hB1 : Below w.heap.size w w1 := Below.grown hW1 hC1.bel (by simp) (fun k e => by injection e with e; omega)
  have bd1 := runs_bd xs 0 (by omega) (by omega)
  go_wp2_with fail
  refine (go11 w.heap.size (runs 0 xs) B cap1 ys _ bd1.1 bd1.2 ⟨hC1.cell, hC1.free, World.grownBy.refl _ _, hC1.lt⟩ (HY.out.below hB1 (Nat.le_refl _))).mono ?_
  rintro e w2 ⟨rfl, hC2⟩
  have hB2 : Below w.heap.size w w2 := Below.grown hB1 hC2.bel hB1.size (fun k e => by injection e with e; omega)
  have hlt2 := hC2.lt
  have hc2 := hC2.cell
  have hf2 := hC2.free
  have hW2 : Below w2.heap.size w2 (w2.alloc (Obj.cells #[] 3)) := by go_grown
  have hown0 : (w2.alloc (Obj.cells #[] 3)).ownsRow w2.heap.size 3 1 (.slice (some ⟨w2.heap.size, 0, none⟩) 0 0) 0 [] := World.ownsRow_lit w2 #[] 0 (Nat.le_refl _) (Nat.zero_le _) rfl
  have hrd0 : Reads (w2.alloc (Obj.cells #[] 3)) (w2.alloc (Obj.cells #[] 3)).heap.size 1 A xs.length (xs.map (Value.int .i64)) := row_reads (HX.out.below (hB2.trans (hW2.mono hB2.size)) (Nat.le_refl _))
  have HO := Lib.hid hown0
  have HR := Lib.hid hrd0
  have n1 : 0 + xs.length ≤ maxLen := by unfold maxLen; omega
  have n2 : (0 + xs.length) * 8 ≤ 140737488355328 := by omega
  have n3 : w2.heap.size ≤ (w2.alloc (Obj.cells #[] 3)).heap.size := by simp
  have N1 := Lib.hid n1
  have N2 := Lib.hid n2
  have N3 := Lib.hid n3
  clear hown0 hrd0 n1 n2 n3
  have n4 : xs.length + ys.length ≤ maxLen := by unfold maxLen; omega
  have n5 : (xs.length + ys.length) * 8 ≤ 140737488355328 := by omega
  have N4 := Lib.hid n4
  have N5 := Lib.hid n5
  clear n4 n5
  go_wp2_with (first | (at_builtin; refine wpList_append_any _ rfl (.tmp 24) (.tmp 25) 22 rfl w2.heap.size 3 i0 (.int .i64 0) 1 8 Try.underlying22 HI.out HZ0.out HZ1.out HZ2.out rfl (by decide) _ 0 [] rfl HO.out _ A xs.length cap0 (xs.map (Value.int .i64)) rfl HR.out (one_ints xs) N1.out N2.out N3.out ?_; intro v3 w3 hown3 hgrow3 hblk3; simp only [Nat.zero_add, List.nil_append] at hown3; have hB3 := grown3 hgrow3; have HR3 := Lib.hid (row_reads (HY.out.below (hB2.trans (hB3.mono hB2.size)) (Nat.le_refl _))); have HO3 := Lib.hid hown3; have HB3 := Lib.hid hB3; have HN3 := Lib.hid hB3.size; clear hown3 hgrow3 hblk3 hB3) | (at_builtin; refine wpList_append_any _ rfl (.tmp 26) (.tmp 27) 22 rfl w2.heap.size 3 i0 (.int .i64 0) 1 8 Try.underlying22 HI.out HZ0.out HZ1.out HZ2.out rfl (by decide) _ xs.length (xs.map (Value.int .i64)) rfl HO3.out _ B ys.length cap1 (ys.map (Value.int .i64)) rfl HR3.out (one_ints ys) N4.out N5.out HN3.out ?_; intro v4 w4 hown4 hgrow4 hblk4; have HO4 := Lib.hid (own_app hown4); have HB4 := Lib.hid (grown4 HO3.out hgrow4 HN3.out); clear hown4 hgrow4 hblk4))
  obtain ⟨A4, cap4, hv4, hR4⟩ := own_row HO4.out hlt2 (by rw [List.length_append]; omega) (getD_app xs ys HX.out.2.2 HY.out.2.2)
  have hB4 : Below w.heap.size w w4 := (hB2.trans (HB3.out.mono hB2.size)).trans (HB4.out.mono hB2.size)
  have hc4 : w4.cell? ⟨w.heap.size, 0, none⟩ = some (.int .i64 (runs (runs 0 xs) ys)) := (HB4.out.cell (p := ⟨w.heap.size, 0, none⟩) hlt2).trans ((HB3.out.cell (p := ⟨w.heap.size, 0, none⟩) hlt2).trans hc2)
  have hl4 : w.heap.size < w4.heap.size := Nat.lt_of_lt_of_le hlt2 (Nat.le_trans HN3.out HB4.out.size)
  rw [hv4]
  clear hv4 hc2 hf2 hW2
  refine (now12 A4 cap4 _ (xs ++ ys) w4 hR4).mono ?_
  rintro e w5 ⟨rfl, rfl⟩
  rw [runs_app]
  have RX : ∃ r : Int, r = runs 0 xs := ⟨_, rfl⟩
  go_wp2_with fail
  refine (awake10 _).mono ?_
  rintro e w5 ⟨rfl, hb5⟩
  have hB5 : Below w.heap.size w w5 := Below.step hB4 hb5
  have hc5 : w5.cell? ⟨w.heap.size, 0, none⟩ = some (.int .i64 (runs (runs 0 xs) ys)) := (hb5.cell (p := ⟨w.heap.size, 0, none⟩) hl4).trans hc4
  clear hc4
  have HC5 := Lib.hid hc5
  clear hc5
  go_wp2_with fail
  refine (now12 A cap0 _ xs w5 (HX.out.below hB5 (Nat.le_refl _))).mono ?_
  rintro e w6 ⟨rfl, rfl⟩
  go_wp2_with fail
  refine (now13 _ _ _ HC5.out).mono ?_
  rintro e w6 ⟨rfl, rfl⟩
  go_wp2_with fail
  refine (due14 _ _ _ _ HC5.out).mono ?_
  rintro e w6 ⟨rfl, rfl⟩
  go_wp2_with fail
  refine (full15 _ _ _ HC5.out).mono ?_
  rintro e w6 ⟨rfl, rfl⟩
  go_wp2_with fail
  refine (now13_nil _).mono ?_
  rintro e w6 ⟨rfl, rfl⟩
  go_wp2_with fail
  refine (go11_nil _ _ _ _).mono ?_
  rintro e w6 ⟨rfl, rfl⟩
  go_wp2
  go_ret
  have hz5 := hB5.size
  exact ⟨rfl, by go_grown⟩

set_option maxHeartbeats 1000000 in
theorem long (A B : Option Addr) (n m cap0 cap1 : Nat) (u : Int) (w : World) (hl : 200 < n + m) (h0 : n ≤ 140737488355328) (h1 : m ≤ 140737488355328) :
    Calls Try.prog 3 #[.slice A n cap0, .slice B m cap1, .int .i64 u] w fun e w' => e = .returned (.bool true) ∧ Below w.heap.size w w' := by
  go_enter Try.func3, Try.ntmps3
  go_wp2_with fail
  refine (awake10 _).mono ?_
  rintro e w5 ⟨rfl, hb5⟩
  go_wp2
  go_ret
  exact ⟨rfl, hb5⟩

theorem row_of {w : World} {A : Option Addr} {len cap : Nat} {zs : List Int} (h : IsRow .i64 w A len cap zs) (hl : len ≤ 200) : (zs.take len).length = len ∧ Row w w.heap.size A (zs.take len) := by
  rcases h with ⟨rfl, rfl, rfl, rfl⟩ | ⟨x, rfl, hlc, hcm, hzl, hcell, hwz⟩
  · exact ⟨rfl, fun hp => absurd hp (by simp), by simp, fun j => by simp⟩
  · have e : (zs.take len).length = len := by rw [List.length_take]; omega
    refine ⟨e, fun hp => ?_, by omega, fun j => ?_⟩
    · obtain ⟨g, off, rfl, hc⟩ := ints_at hcell (by omega)
      have h := hc 0 (by omega)
      have hg : g < w.heap.size := by
        rcases Nat.lt_or_ge g w.heap.size with hlt | hge
        · exact hlt
        · exact absurd h (by simp [World.cell?, Array.getElem?_eq_none hge])
      refine ⟨g, off, rfl, by omega, hg, fun j hj => ?_⟩
      rw [hc j (by omega)]
      simp only [List.getD_eq_getElem?_getD, List.getElem?_take]
      rw [if_pos (by omega)]
    · by_cases hj : j < len
      · have hm : (zs.take len).getD j 0 ∈ zs := by
          rw [List.getD_eq_getElem?_getD, List.getElem?_take, if_pos hj, List.getElem?_eq_getElem (by omega)]
          exact List.getElem_mem _
        exact bounds_i64 (hwz _ hm)
      · have : (zs.take len).getD j 0 = 0 := by rw [List.getD_eq_getElem?_getD, List.getElem?_eq_none (by omega)]; rfl
        omega
theorem len_le {w : World} {A : Option Addr} {len cap : Nat} {zs : List Int} (h : IsRow .i64 w A len cap zs) : len ≤ maxLen := by
  rcases h with ⟨rfl, rfl, rfl, rfl⟩ | ⟨x, rfl, hlc, hcm, _⟩
  · exact Nat.zero_le _
  · omega

theorem walk (a0 : Option Addr) (len0 cap0 : Nat) (z0 : List Int) (a1 : Option Addr) (len1 cap1 : Nat) (z1 : List Int) (a2 : Int) (w : World) (w0 : IsRow .i64 w a0 len0 cap0 z0) (q0 : cap0 * 8 ≤ 140737488351232) (w1 : IsRow .i64 w a1 len1 cap1 z1) (q1 : cap1 * 8 ≤ 140737488351232) (w2 : (Lit.int .i64 a2).wf = true) :
    Calls Try.prog 3 #[.slice a0 len0 cap0, .slice a1 len1 cap1, .int .i64 a2] w fun e w' => e = .returned (.bool true) ∧ Below w.heap.size w w' := by
  by_cases hl : len0 + len1 ≤ 200
  · obtain ⟨e0, r0⟩ := row_of w0 (by omega)
    obtain ⟨e1, r1⟩ := row_of w1 (by omega)
    have := main a0 a1 cap0 cap1 (z0.take len0) (z1.take len1) a2 w (by omega) r0 r1
    rw [e0, e1] at this
    exact this
  · have i0 : len0 ≤ cap0 := by rcases w0 with ⟨_, h, _, _⟩ | ⟨x, _, h, _⟩ <;> omega
    have i1 : len1 ≤ cap1 := by rcases w1 with ⟨_, h, _, _⟩ | ⟨x, _, h, _⟩ <;> omega
    exact long _ _ _ _ _ _ _ w (by omega) (by omega) (by omega)
end Go.Proofs.Ytdaacboalleidaa.tickGoes

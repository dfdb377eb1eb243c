/-
  Contracts of tick.Clock (Go, Now, Due, Full), of tick.Pick, of field.Add at two numbers, of the document's Now, and of the awake of layer 4.
-/
import Derived.Test.YtdjdpbgemdmpiaaRows
import Derived.WalkKit
import Derived.ProofKit
import Derived.OpenShut
import Derived.ShutString
import Derived.Below
import Derived.Outline
import Derived.WalkLawsBesides
import Derived.WalkSpells
import Derived.Handy
import Derived.Deep.QuietTactic
import Derived.BigQuiet
import Derived.RegionTactic
import Derived.ChangeAlike
import Derived.Lib.Hide
import Derived.Test.YtdjdpbgemdmpiaaKit
namespace Go.Proofs.Ytdjdpbgemdmpiaa
open Go.ChangeShapes Go.WideShapes Go.ChangeAt Go.RowKit

/-- One number more. -/
def stp (n x : Int) : Int := if 0 < x then (if 1000000 - n < x then 1000000 else n + x) else n
theorem stp_lo (n x : Int) (h0 : 0 ≤ n) (h1 : n ≤ 1000000) : 0 ≤ stp n x ∧ stp n x ≤ 1000000 := by
  unfold stp; split <;> (try split) <;> omega
/-- Where the clock stands behind some numbers. -/
def runs (n : Int) (xs : List Int) : Int := xs.foldl stp n
theorem runs_bd (xs : List Int) : ∀ n : Int, 0 ≤ n → n ≤ 1000000 → 0 ≤ runs n xs ∧ runs n xs ≤ 1000000 := by
  induction xs with
  | nil => intro n h0 h1; exact ⟨h0, h1⟩
  | cons x r ih => intro n h0 h1; exact ih _ (stp_lo n x h0 h1).1 (stp_lo n x h0 h1).2
theorem runs_app (n : Int) (xs ys : List Int) : runs n (xs ++ ys) = runs (runs n xs) ys := List.foldl_append
theorem runs_succ (n : Int) (xs : List Int) (k : Nat) (h : k < xs.length) : runs n (xs.take (k + 1)) = stp (runs n (xs.take k)) (xs.getD k 0) := by
  have e : xs.take (k + 1) = xs.take k ++ [xs.getD k 0] := by
    rw [List.take_succ_eq_append_getElem h, List.getD_eq_getElem?_getD, List.getElem?_eq_getElem h]; rfl
  rw [e, runs_app]; rfl

/-- A slice of ints, nil let in, that doesn't lie in block c. -/
def Row (w : World) (c : Nat) (A : Option Addr) (xs : List Int) : Prop :=
  (0 < xs.length → ∃ g off, A = some ⟨g, off, none⟩ ∧ g ≠ c ∧ g < w.heap.size ∧ ∀ j, j < xs.length → w.cell? ⟨g, off + j, none⟩ = some (.int .i64 (xs.getD j 0))) ∧
  xs.length ≤ 140737488355328 ∧ ∀ j, -9223372036854775808 ≤ xs.getD j 0 ∧ xs.getD j 0 ≤ 9223372036854775807
theorem Row.grown {w w' : World} {c d : Nat} {A : Option Addr} {xs : List Int} (h : Row w c A xs) (hb : w.grownBy w' (some c)) (hd : 0 < xs.length → ∀ g off, A = some ⟨g, off, none⟩ → g ≠ d) : Row w' d A xs :=
  ⟨fun hn => by
    obtain ⟨g, off, rfl, hne, hg, hc⟩ := h.1 hn
    have hz := hb.size
    exact ⟨g, off, rfl, hd hn g off rfl, by omega, fun j hj => (World.cell?_of_block (w := w) (hb.block g hg (fun e => hne (by injection e)))).trans (hc j hj)⟩, h.2⟩
theorem Row.below {w w' : World} {c d : Nat} {A : Option Addr} {xs : List Int} (h : Row w c A xs) (hb : Below w.heap.size w w') (hd : w.heap.size ≤ d) : Row w' d A xs :=
  ⟨fun hn => by
    obtain ⟨g, off, rfl, hne, hg, hc⟩ := h.1 hn
    have hz := hb.size
    exact ⟨g, off, rfl, by omega, by omega, fun j hj => (hb.cell (p := ⟨g, off + j, none⟩) hg).trans (hc j hj)⟩, h.2⟩

theorem add_over (b : Nat) (x y : Int) (w : World) (h0 : 0 ≤ x) (h1 : x ≤ 1000000) (h2 : y ≤ 9223372036854775807) (h3 : 1000000 - x < y) (c0 : w.cell? ⟨b, 0, none⟩ = some (.int .u64 x)) (c1 : w.cell? ⟨b, 1, none⟩ = some (.int .u64 y)) :
    Calls Try.prog 66 #[.int .u64 1000000, .slice (some ⟨b, 0, none⟩) 2 2] w fun e w' => e = .returned (.int .u64 1000000) ∧ w = w' := by
  go_enter Try.func66, Try.ntmps66
  go_wp2
  go_rounds 3
  all_goals go_ret
  all_goals exact ⟨rfl, rfl⟩
theorem add_under (b : Nat) (x y : Int) (w : World) (h0 : 0 ≤ x) (h1 : x ≤ 1000000) (h2 : 0 < y) (h3 : y ≤ 1000000 - x) (c0 : w.cell? ⟨b, 0, none⟩ = some (.int .u64 x)) (c1 : w.cell? ⟨b, 1, none⟩ = some (.int .u64 y)) :
    Calls Try.prog 66 #[.int .u64 1000000, .slice (some ⟨b, 0, none⟩) 2 2] w fun e w' => e = .returned (.int .u64 (x + y)) ∧ w = w' := by
  go_enter Try.func66, Try.ntmps66
  go_wp2
  go_rounds 3
  all_goals go_ret
  all_goals exact ⟨rfl, rfl⟩

/-- A clock's block: what it holds; what was below it is as it was. -/
structure Clk (w wr : World) (c : Nat) (n : Int) : Prop where
  cell : wr.cell? ⟨c, 0, none⟩ = some (.int .i64 n)
  free : wr.frozen? ⟨c, 0, none⟩ = false
  bel : w.grownBy wr (some c)
  lt : c < wr.heap.size

theorem only_alloc {a w : World} {row : Option Nat} (h : a.grownBy w row) (o : Obj) : a.grownBy (w.alloc o) row :=
  ⟨h.os, h.tape, h.output, Nat.le_trans h.size (by simp), fun i hi hne => (Below.heap_alloc w o i (Nat.lt_of_lt_of_le hi h.size)).trans (h.block i hi hne)⟩
theorem only_setCell {a w : World} {g : Nat} (h : a.grownBy w (some g)) {p : Addr} (hp : p.block = g ∨ a.heap.size ≤ p.block) (u : Value) : a.grownBy (w.setCell p u) (some g) :=
  ⟨h.os, h.tape, h.output, by simpa [World.setCell] using h.size, fun i hi hne => (Below.heap_setCell w p u i (by
    rintro rfl
    rcases hp with hp | hp
    · exact hne (by rw [hp])
    · omega)).trans (h.block i hi hne)⟩
theorem Clk.step {w wr : World} {c : Nat} {m : Int} (h : Clk w wr c m) (v : Int) (o : Obj) : Clk w ((wr.setCell ⟨c, 0, none⟩ (.int .i64 v)).alloc o) c v := by
  have hl := h.lt
  have hs : c < (wr.setCell ⟨c, 0, none⟩ (.int .i64 v)).heap.size := by rw [World.size_setCell]; exact hl
  refine ⟨(World.cell?_alloc_lt _ _ ⟨c, 0, none⟩ hs).trans (World.cell?_setCell_same _ _ _ h.cell), ?_, ?_, ?_⟩
  · have hf := h.free
    simp [go_sem, hf, hl]
  · exact only_alloc (only_setCell h.bel (.inl rfl) _) o
  · rw [World.size_alloc]; omega
theorem stp_over {m v : Int} (hv : 0 < v) (ho : 1000000 - m < v) : stp m v = 1000000 := by unfold stp; rw [if_pos hv, if_pos ho]
theorem stp_under {m v : Int} (hv : 0 < v) (ho : ¬ 1000000 - m < v) : stp m v = m + v := by unfold stp; rw [if_pos hv, if_neg ho]
theorem stp_none {m v : Int} (hv : ¬ 0 < v) : stp m v = m := by unfold stp; rw [if_neg hv]

set_option maxHeartbeats 1000000 in
theorem go11 (c : Nat) (n0 : Int) (A : Option Addr) (cap : Nat) (xs : List Int) (w : World) (h0 : 0 ≤ n0) (h1 : n0 ≤ 1000000) (hT : Clk w w c n0) (hR : Row w c A xs) :
    Calls Try.prog 49 #[.pointer (some ⟨c, 0, none⟩), .slice A xs.length cap] w fun e w' => e = .returned (.int .i64 (runs n0 xs)) ∧ Clk w w' c (runs n0 xs) := by
  have hlen := hR.2.1
  have HR := Lib.hid hR
  clear hR
  go_enter Try.func49, Try.ntmps49
  go_wp2
  go_loopw [11] (fun i wr => ∃ k : Nat, k ≤ xs.length ∧ i = .int .i64 k ∧ Clk w wr c (runs n0 (xs.take k))) (fun i _ => xs.length - (intOf i).toNat)
  case atStart => exact ⟨0, Nat.zero_le _, rfl, hT⟩
  case round =>
    obtain ⟨k, hk, rfl, hC⟩ := hrel
    by_cases hlt : k < xs.length
    · obtain ⟨g, off, rfl, hne, hg, hc⟩ := HR.out.1 (by omega)
      obtain ⟨v0, v1⟩ := HR.out.2.2 k
      have hs := runs_succ n0 xs k hlt
      have hz : wr.cell? ⟨g, off + k, none⟩ = some (.int .i64 (xs.getD k 0)) := (World.cell?_of_block (w := w) (hC.bel.block g hg (fun e => hne (by injection e)))).trans (hc k hlt)
      have bd := runs_bd (xs.take k) n0 h0 h1
      obtain ⟨bd0, bd1⟩ := bd
      clear hc
      generalize xs.getD k 0 = v at *
      generalize hm : runs n0 (xs.take k) = m at *
      have HS := Lib.hid hs
      clear hs hm
      have hcc := hC.cell
      have hcf := hC.free
      have hcl := hC.lt
      by_cases hv : 0 < v
      · by_cases ho : 1000000 - m < v
        · go_wp2_with fail
          refine (add_over wr.heap.size m v _ bd0 bd1 v1 ho (by simp [go_sem]) (by simp [go_sem])).mono ?_
          rintro e w1 ⟨rfl, rfl⟩
          go_wp2
          go_roundw
          case rel => exact ⟨k + 1, by omega, by go_num, by rw [HS.out, stp_over hv ho]; exact hC.step _ _⟩
          case measure => simp [intOf]; omega
        · go_wp2_with fail
          refine (add_under wr.heap.size m v _ bd0 bd1 hv (by omega) (by simp [go_sem]) (by simp [go_sem])).mono ?_
          rintro e w1 ⟨rfl, rfl⟩
          go_wp2
          go_roundw
          case rel => exact ⟨k + 1, by omega, by go_num, by rw [HS.out, stp_under hv (by omega)]; exact hC.step _ _⟩
          case measure => simp [intOf]; omega
      · go_wp2
        go_roundw
        case rel => exact ⟨k + 1, by omega, by go_num, by rw [HS.out, stp_none hv]; exact hC⟩
        case measure => simp [intOf]; omega
    · have hcc := hC.cell
      have hcf := hC.free
      have hx : xs.take k = xs := List.take_of_length_le (by omega)
      rw [hx] at hcc hC
      clear hx
      go_wp2
      go_ret
      exact ⟨rfl, hC⟩

set_option maxHeartbeats 1000000 in
theorem awake04 (w : World) : Calls Try.prog 20 #[] w fun e w' => e = .returned (.bool true) ∧ Below w.heap.size w w' := by
  have hr : runs 0 [3, -1, 4] = 7 := by decide
  have HR := Lib.hid hr
  clear hr
  go_enter Try.func20, Try.ntmps20
  go_wp2_with fail
  refine (go11 w.heap.size 0 (some ⟨w.heap.size + 1, 0, none⟩) 3 [3, -1, 4] _ (by omega) (by omega) ⟨by simp [go_sem], by simp [go_sem], World.grownBy.refl _ _, by simp; omega⟩ ⟨fun _ => ⟨w.heap.size + 1, 0, rfl, by omega, by simp, fun j hj => ?_⟩, by simp, fun j => ?_⟩).mono ?_
  · match j, hj with
    | 0, _ => simp [go_sem]
    | 1, _ => simp [go_sem]
    | 2, _ => simp [go_sem]
  · match j with
    | 0 => simp
    | 1 => simp
    | 2 => simp
    | n + 3 => simp
  rintro e w1 ⟨rfl, hC⟩
  rw [HR.out]
  have hB : Below w.heap.size w w1 := Below.grown (by go_grown : Below w.heap.size w ((w.alloc (Obj.cells #[.int .i64 0] 100)).alloc (Obj.cells #[.int .i64 3, .int .i64 (-1), .int .i64 4] 3))) hC.bel (by simp only [World.size_alloc]; omega) (fun k e => by injection e with e; omega)
  go_wp2
  go_ret
  exact ⟨rfl, hB⟩
end Go.Proofs.Ytdjdpbgemdmpiaa

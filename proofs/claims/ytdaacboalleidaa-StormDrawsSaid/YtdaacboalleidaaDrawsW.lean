/-
  The walk of StormDraws.
-/
import Derived.Test.YtdaacboalleidaaRows
import Derived.WalkKit
import Derived.ProofKit
import Derived.OpenShut
import Derived.ShutString
import Derived.Below
import Derived.Outline
import Derived.WalkLawsBesides
import Derived.WalkSpells
import Derived.Handy
import Derived.Deep.QuietTactic
import Derived.BigQuiet
import Derived.RegionTactic
import Derived.ChangeAlike
import Derived.Lib.Hide
import Derived.Deep.RegionHeld3
import Derived.Test.YtdaacboalleidaaKit
import Derived.Test.YtdaacboalleidaaStorm
namespace Go.Proofs.Ytdaacboalleidaa.stormDraws
open Go.ChangeShapes Go.WideShapes Go.ChangeAt Go.RowKit

theorem hi_val (n : Int) : IntKind.u64.wrap ((nx n).tdiv 8589934592) = hi (nx n) := by
  have h0 := nx_lo n
  have h1 := nx_hi n
  rw [Int.tdiv_eq_ediv_of_nonneg h0, IntKind.wrap_u64]
  unfold hi
  omega

/-- The three sources, in blocks behind all that was there. -/
structure Three (w wr : World) (a b c : Int) : Prop where
  s : wr.cell? ⟨w.heap.size, 0, none⟩ = some (.int .u64 a)
  t : wr.cell? ⟨w.heap.size + 1, 0, none⟩ = some (.int .u64 b)
  q : wr.cell? ⟨w.heap.size + 1 + 1, 0, none⟩ = some (.int .u64 c)
  fs : wr.frozen? ⟨w.heap.size, 0, none⟩ = false
  ft : wr.frozen? ⟨w.heap.size + 1, 0, none⟩ = false
  fq : wr.frozen? ⟨w.heap.size + 1 + 1, 0, none⟩ = false
  bel : Below w.heap.size w wr
  lt : w.heap.size + 1 + 1 < wr.heap.size
theorem ne_of {a b : Nat} (h : a ≠ b) : (⟨a, 0, none⟩ : Addr) ≠ ⟨b, 0, none⟩ := by
  intro e; injection e with e; exact h e
theorem Three.setS {w wr : World} {a b c : Int} (h : Three w wr a b c) (v : Int) : Three w (wr.setCell ⟨w.heap.size, 0, none⟩ (.int .u64 v)) v b c :=
  ⟨World.cell?_setCell_same _ _ _ h.s, (World.cell?_setCell_other _ _ _ _ (ne_of (by omega))).trans h.t, (World.cell?_setCell_other _ _ _ _ (ne_of (by omega))).trans h.q,
    by simpa [go_sem] using h.fs, by simpa [go_sem] using h.ft, by simpa [go_sem] using h.fq, h.bel.setCell (Nat.le_refl _) _, by simpa using h.lt⟩
theorem Three.setT {w wr : World} {a b c : Int} (h : Three w wr a b c) (v : Int) : Three w (wr.setCell ⟨w.heap.size + 1, 0, none⟩ (.int .u64 v)) a v c :=
  ⟨(World.cell?_setCell_other _ _ _ _ (ne_of (by omega))).trans h.s, World.cell?_setCell_same _ _ _ h.t, (World.cell?_setCell_other _ _ _ _ (ne_of (by omega))).trans h.q,
    by simpa [go_sem] using h.fs, by simpa [go_sem] using h.ft, by simpa [go_sem] using h.fq, h.bel.setCell (Nat.le_succ _) _, by simpa using h.lt⟩
theorem Three.setQ {w wr : World} {a b c : Int} (h : Three w wr a b c) (v : Int) : Three w (wr.setCell ⟨w.heap.size + 1 + 1, 0, none⟩ (.int .u64 v)) a b v :=
  ⟨(World.cell?_setCell_other _ _ _ _ (ne_of (by omega))).trans h.s, (World.cell?_setCell_other _ _ _ _ (ne_of (by omega))).trans h.t, World.cell?_setCell_same _ _ _ h.q,
    by simpa [go_sem] using h.fs, by simpa [go_sem] using h.ft, by simpa [go_sem] using h.fq, h.bel.setCell (by show w.heap.size ≤ w.heap.size + 1 + 1; omega) _, by simpa using h.lt⟩
theorem Three.below {w wr wy : World} {a b c : Int} (h : Three w wr a b c) (hb : Below wr.heap.size wr wy) : Three w wy a b c := by
  have hl := h.lt
  have hz := hb.size
  exact ⟨(hb.cell (p := ⟨_, _, none⟩) (by show w.heap.size < _; omega)).trans h.s, (hb.cell (p := ⟨_, _, none⟩) (by show w.heap.size + 1 < _; omega)).trans h.t, (hb.cell (p := ⟨_, _, none⟩) hl).trans h.q,
    (hb.frozen (p := ⟨_, _, none⟩) (by show w.heap.size < _; omega)).trans h.fs, (hb.frozen (p := ⟨_, _, none⟩) (by show w.heap.size + 1 < _; omega)).trans h.ft, (hb.frozen (p := ⟨_, _, none⟩) hl).trans h.fq, Below.step h.bel hb, by omega⟩

theorem Three.drew {w wr : World} {a b c : Int} (h : Three w wr a b c) : Three w wr.drew a b c := ⟨h.s, h.t, h.q, h.fs, h.ft, h.fq, h.bel.drew, h.lt⟩

/-- Behind a call: its value, and the three sources. -/
def Now (w : World) (v : Value) (a b c : Int) (e : Ending) (w' : World) : Prop := e = .returned v ∧ Three w w' a b c
section
variable {w wr : World} {a b c : Int}
theorem belowS (h : Three w wr a b c) (k : Int) (hk : k ≤ 9223372036854775807) : Calls Try.prog 40 #[.pointer (some ⟨w.heap.size, 0, none⟩), .int .i64 k] wr (Now w (.int .i64 (bl (nx a) k)) (nx a) b c) :=
  (below40 _ _ _ _ hk h.s h.fs).mono fun _ _ ⟨he, hw⟩ => ⟨he, by rw [← hw]; exact h.setS _⟩
theorem belowT (h : Three w wr a b c) (k : Int) (hk : k ≤ 9223372036854775807) : Calls Try.prog 40 #[.pointer (some ⟨w.heap.size + 1, 0, none⟩), .int .i64 k] wr (Now w (.int .i64 (bl (nx b) k)) a (nx b) c) :=
  (below40 _ _ _ _ hk h.t h.ft).mono fun _ _ ⟨he, hw⟩ => ⟨he, by rw [← hw]; exact h.setT _⟩
theorem belowQ (h : Three w wr a b c) (k : Int) (hk : k ≤ 9223372036854775807) : Calls Try.prog 41 #[.pointer (some ⟨w.heap.size + 1 + 1, 0, none⟩), .int .i64 k] wr (Now w (.int .i64 (bl (nx c) k)) a b (nx c)) :=
  (below41 _ _ _ _ hk h.q h.fq).mono fun _ _ ⟨he, hw⟩ => ⟨he, by rw [← hw]; exact h.setQ _⟩
theorem pickS (h : Three w wr a b c) (g off len cap : Nat) (v : Int) (hg : g < w.heap.size) (hl : 0 < len) (hl1 : (len : Int) ≤ 9223372036854775807) (hv : wr.cell? ⟨g, off + (bl (nx a) len).toNat, none⟩ = some (.int .i64 v)) :
    Calls Try.prog 42 #[.pointer (some ⟨w.heap.size, 0, none⟩), .slice (some ⟨g, off, none⟩) len cap] wr (Now w (.int .i64 v) (nx a) b c) :=
  (pick42 _ _ _ _ _ _ _ _ hl hl1 (by omega) hv h.s h.fs).mono fun _ _ ⟨he, hw⟩ => ⟨he, by rw [← hw]; exact h.setS _⟩
theorem pickT (h : Three w wr a b c) (g off len cap : Nat) (v : Int) (hg : g < w.heap.size) (hl : 0 < len) (hl1 : (len : Int) ≤ 9223372036854775807) (hv : wr.cell? ⟨g, off + (bl (nx b) len).toNat, none⟩ = some (.int .i64 v)) :
    Calls Try.prog 42 #[.pointer (some ⟨w.heap.size + 1, 0, none⟩), .slice (some ⟨g, off, none⟩) len cap] wr (Now w (.int .i64 v) a (nx b) c) :=
  (pick42 _ _ _ _ _ _ _ _ hl hl1 (by omega) hv h.t h.ft).mono fun _ _ ⟨he, hw⟩ => ⟨he, by rw [← hw]; exact h.setT _⟩
theorem next_s (h : Three w wr a b c) : Calls Try.prog 43 #[.pointer (some ⟨w.heap.size, 0, none⟩)] wr (Now w (.int .u64 (hi (nx a))) (nx a) b c) :=
  (next43 _ _ _ h.s h.fs).mono fun _ _ ⟨he, hw⟩ => ⟨he, by rw [← hw]; exact h.setS _⟩
end

set_option maxHeartbeats 2000000 in
theorem main (n0 : Int) (g off len cap : Nat) (zs : List Int) (w : World) (hl : len ≤ 200) (hlc : len ≤ cap) (hcap : (cap : Int) ≤ 9223372036854775807) (hg : g < w.heap.size)
    (hcell : ∀ j, j < len → w.cell? ⟨g, off + j, none⟩ = some (.int .i64 (zs.getD j 0))) (hwf : ∀ j, zs.getD j 0 ≤ 9223372036854775807) :
    Calls Try.prog 9 #[.int .u64 n0, .slice (some ⟨g, off, none⟩) len cap] w fun e w' => e = .returned (.bool true) ∧ Below w.heap.size w w' := by
  have HC := Lib.hid hcell
  have HW := Lib.hid hwf
  clear hcell hwf
  go_enter Try.func9, Try.ntmps9
  go_wp2
  go_loopw [26] (fun i wr => ∃ (k : Nat) (m : Int), k ≤ len ∧ i = .int .i64 k ∧ Three w wr m m m) (fun i _ => len - (intOf i).toNat)
  case atStart => exact ⟨0, n0, by omega, rfl, ⟨by simp [go_sem], by simp [go_sem], by simp [go_sem], by simp [go_sem], by simp [go_sem], by simp [go_sem], by go_grown, by simp⟩⟩
  case round =>
    obtain ⟨k, m, hk, rfl, hT⟩ := hrel
    by_cases hlt : k < len
    · obtain ⟨v, hv, hz⟩ : ∃ v : Int, v ≤ 9223372036854775807 ∧ wr.cell? ⟨g, off + k, none⟩ = some (.int .i64 v) := ⟨_, HW.out k, (hT.bel.cell (p := ⟨g, off + k, none⟩) hg).trans (HC.out k hlt)⟩
      have hx : ∀ x : Int, (x != x) = false := fun x => by simp
      have hxm := hx (bl (nx m) v)
      clear hx
      by_cases h8 : k % 8 = 0
      · go_wp2_with fail
        refine (belowS hT _ hv).mono ?_
        rintro e w1 ⟨rfl, hT1⟩
        clear hz
        go_wp2_with fail
        refine (belowQ hT1 _ hv).mono ?_
        rintro e w2 ⟨rfl, hT2⟩
        go_wp2_with fail
        refine (belowT hT2 _ hv).mono ?_
        rintro e w3 ⟨rfl, hT3⟩
        go_wp2_with fail
        refine (pick42_none _ _ _ _).mono ?_
        rintro e w4 ⟨rfl, rfl⟩
        go_wp2_with fail
        refine (pick42_none _ _ _ _).mono ?_
        rintro e w4 ⟨rfl, rfl⟩
        go_wp2
        go_roundw
        case rel => first | exact ⟨k + 1, nx m, by omega, by go_num, hT3⟩ | ((repeat apply Exists.intro); exact ⟨⟨k + 1, nx m, by omega, by go_num, hT3⟩, rfl⟩)
        case measure => simp [intOf]; omega
      · have h8' : 0 < k % 8 := by omega
        go_wp2_with fail
        refine (belowS hT _ hv).mono ?_
        rintro e w1 ⟨rfl, hT1⟩
        clear hz
        go_wp2_with fail
        refine (belowQ hT1 _ hv).mono ?_
        rintro e w2 ⟨rfl, hT2⟩
        go_wp2_with fail
        refine (belowT hT2 _ hv).mono ?_
        rintro e w3 ⟨rfl, hT3⟩
        go_wp2_with fail
        have ek : ((k % 8 : Nat) : Int) = (k : Int) % 8 := by omega
        have b1 := bl_lo (nx (nx m)) ((k : Int) % 8)
        have b2 := bl_hi (nx (nx m)) ((k : Int) % 8) (by omega)
        obtain ⟨v2, hz2⟩ : ∃ v2 : Int, w.cell? ⟨g, off + (bl (nx (nx m)) ((k : Int) % 8)).toNat, none⟩ = some (.int .i64 v2) := ⟨_, HC.out _ (by omega)⟩
        have hxv : (v2 != v2) = false := by simp
        have EK := Lib.hid ek
        clear ek
        have HZ2 := Lib.hid hz2
        clear hz2
        refine (belowQ hT3 _ (by omega)).mono ?_
        rintro e w4 ⟨rfl, hT4⟩
        have hz4 : w4.cell? ⟨g, off + (bl (nx (nx m)) ((k : Int) % 8)).toNat, none⟩ = some (.int .i64 v2) := (hT4.bel.cell (p := ⟨g, _, none⟩) hg).trans HZ2.out
        go_wp2_with fail
        refine (pickS hT4 _ _ _ _ v2 hg h8' (by omega) (by rw [EK.out]; exact hz4)).mono ?_
        rintro e w5 ⟨rfl, hT5⟩
        have hz5 : w5.cell? ⟨g, off + (bl (nx (nx m)) ((k : Int) % 8)).toNat, none⟩ = some (.int .i64 v2) := (hT5.bel.cell (p := ⟨g, _, none⟩) hg).trans HZ2.out
        clear hz4
        go_wp2_with fail
        refine (pickT hT5 _ _ _ _ v2 hg h8' (by omega) (by rw [EK.out]; exact hz5)).mono ?_
        rintro e w6 ⟨rfl, hT6⟩
        clear hz5
        go_wp2
        go_roundw
        case rel => first | exact ⟨k + 1, nx (nx m), by omega, by go_num, hT6⟩ | ((repeat apply Exists.intro); exact ⟨⟨k + 1, nx (nx m), by omega, by go_num, hT6⟩, rfl⟩)
        case measure => simp [intOf]; omega
    · go_wp2_with fail
      refine (belowQ hT 1 (by omega)).mono ?_
      rintro e w1 ⟨rfl, hT1⟩
      have hEq : (hi (nx m) == IntKind.u64.wrap ((nx m).tdiv 8589934592)) = true := by rw [hi_val]; simp
      have hn0 := nx_lo m
      go_wp2_with fail
      go_region_held3 (fun w' => w'.cell? ⟨w.heap.size + 1 + 1, 0, none⟩ = some (.int .u64 (nx m))) (first | exact hT1.q | exact hT3.q | exact hT2.q | fail)
        (first
          | ((with_reducible refine (awake38 _).mono ?_); rintro e w2 ⟨rfl, hb2⟩; have hT2 := hT1.drew.below hb2)
          | ((with_reducible refine (next_s hT2).mono ?_); rintro e w3 ⟨rfl, hT3⟩) | fail)
      go_wp2
      go_ret
      exact ⟨rfl, by have := hT3.bel; go_grown⟩

set_option maxHeartbeats 2000000 in
theorem long (n0 : Int) (A : Option Addr) (len cap : Nat) (w : World) (hl : 200 < len) (hl1 : (len : Int) ≤ 9223372036854775807) :
    Calls Try.prog 9 #[.int .u64 n0, .slice A len cap] w fun e w' => e = .returned (.bool true) ∧ Below w.heap.size w w' := by
  go_enter Try.func9, Try.ntmps9
  go_wp2_with fail
  refine (awake38 _).mono ?_
  rintro e w1 ⟨rfl, hb1⟩
  go_wp2
  go_ret
  exact ⟨rfl, hb1⟩

set_option maxHeartbeats 2000000 in
theorem none_ (n0 : Int) (A : Option Addr) (cap : Nat) (w : World) :
    Calls Try.prog 9 #[.int .u64 n0, .slice A 0 cap] w fun e w' => e = .returned (.bool true) ∧ Below w.heap.size w w' := by
  go_enter Try.func9, Try.ntmps9
  go_wp2
  refine wp_loop_rounds 1 ?_
  rw [rounds_succ]
  have hT : Three w (((w.alloc (Obj.cells #[.int .u64 n0] 87)).alloc (Obj.cells #[.int .u64 n0] 87)).alloc (Obj.cells #[.int .u64 n0] 71)) n0 n0 n0 := ⟨by simp [go_sem], by simp [go_sem], by simp [go_sem], by simp [go_sem], by simp [go_sem], by simp [go_sem], by go_grown, by simp⟩
  go_wp2_with fail
  refine (belowQ hT 1 (by omega)).mono ?_
  rintro e w1 ⟨rfl, hT1⟩
  have hEq : (hi (nx n0) == IntKind.u64.wrap ((nx n0).tdiv 8589934592)) = true := by rw [hi_val]; simp
  have hn0 := nx_lo n0
  go_wp2_with fail
  go_region_held3 (fun w' => w'.cell? ⟨w.heap.size + 1 + 1, 0, none⟩ = some (.int .u64 (nx n0))) (first | exact hT1.q | exact hT3.q | exact hT2.q | fail)
    (first
      | ((with_reducible refine (awake38 _).mono ?_); rintro e w2 ⟨rfl, hb2⟩; have hT2 := hT1.drew.below hb2)
      | ((with_reducible refine (next_s hT2).mono ?_); rintro e w3 ⟨rfl, hT3⟩) | fail)
  go_wp2
  go_ret
  exact ⟨rfl, by have := hT3.bel; go_grown⟩

theorem walk (a0 : Int) (a1 : Option Addr) (len1 cap1 : Nat) (z1 : List Int) (w : World) (w0 : (Lit.int .u64 a0).wf = true) (w1 : IsRow .i64 w a1 len1 cap1 z1) :
    Calls Try.prog 9 #[.int .u64 a0, .slice a1 len1 cap1] w fun e w' => e = .returned (.bool true) ∧ Below w.heap.size w w' := by
  rcases w1 with ⟨rfl, rfl, rfl, rfl⟩ | ⟨x, rfl, hlc, hcm, hzl, hcell, hwz⟩
  · exact none_ _ _ _ w
  · unfold maxLen at hcm
    by_cases h0 : len1 = 0
    · subst h0
      exact none_ _ _ _ w
    by_cases h2 : 200 < len1
    · exact long _ _ _ _ w h2 (by omega)
    obtain ⟨g, off, rfl, hc⟩ := ints_at hcell (by omega)
    have hg : g < w.heap.size := by
      have h := hc 0 (by omega)
      rcases Nat.lt_or_ge g w.heap.size with hlt | hge
      · exact hlt
      · exact absurd (World.new_ne w ⟨g, off + 0, none⟩ h) (by intro hn; simp [World.cell?, Array.getElem?_eq_none hge] at h)
    exact main _ g off len1 cap1 z1 w (by omega) hlc (by omega) hg (fun j hj => hc j (by omega)) (fun j => by
      by_cases hj : j < z1.length
      · have hm : z1.getD j 0 ∈ z1 := by rw [List.getD_eq_getElem?_getD, List.getElem?_eq_getElem hj]; exact List.getElem_mem hj
        exact (bounds_i64 (hwz _ hm)).2
      · have : z1.getD j 0 = 0 := by rw [List.getD_eq_getElem?_getD, List.getElem?_eq_none (by omega)]; rfl
        omega)
end Go.Proofs.Ytdaacboalleidaa.stormDraws

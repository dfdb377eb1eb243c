/-
  Texts of the machine of pairs, part 11.
-/
import Derived.Test.YtmjkhefgpobinaaM1
import Derived.Test.YtmjkhefgpobinaaM2
import Derived.Test.YtmjkhefgpobinaaM3
import Derived.Test.YtmjkhefgpobinaaM10
namespace Go.Proofs.Ytmjkhefgpobinaa
open Go.ChangeShapes Go.WideShapes Go.ChangeAt Go.RowKit
theorem mul12 {n b : Int} (hn : 1 ≤ n ∧ n ≤ 3) (hb : 1 ≤ b ∧ b ≤ 4) : 1 ≤ n * b ∧ n * b ≤ 12 := by
  obtain ⟨h1, h2⟩ := hb
  rcases (show b = 1 ∨ b = 2 ∨ b = 3 ∨ b = 4 by omega) with rfl | rfl | rfl | rfl <;> omega
set_option maxHeartbeats 1000000 in
theorem rsh_in (p c n b r f g : Int) (x y : Int) (w : World) (x0 : 0 ≤ x) (x1 : x < n) (y0 : 0 ≤ y) (y1 : y < b) (hb : b ≤ 4) (hn : n ≤ 3) : Calls Try.prog 81 #[.agg #[.int .i64 p, .int .i64 c, .int .i64 n, .int .i64 b, .int .i64 r, .int .i64 f, .int .i64 g], .int .i64 x, .int .i64 y] w fun e w' => e = .returned (.int .i64 (x * b + y)) ∧ Below w.heap.size w w' := by
  have m0 : 0 ≤ x * b := Int.mul_nonneg x0 (by omega)
  have m1 : x * b ≤ 24 := by rcases (show b = 1 ∨ b = 2 ∨ b = 3 ∨ b = 4 by omega) with rfl | rfl | rfl | rfl <;> omega
  clear hn
  go_enter Try.func81, Try.ntmps81
  go_wp2
  go_ret
  exact ⟨rfl, by go_grown⟩
set_option maxHeartbeats 1000000 in
theorem rsh_out (p c n b r f g : Int) (x y : Int) (w : World) (h : ¬ (0 ≤ x ∧ x < n)) : Calls Try.prog 81 #[.agg #[.int .i64 p, .int .i64 c, .int .i64 n, .int .i64 b, .int .i64 r, .int .i64 f, .int .i64 g], .int .i64 x, .int .i64 y] w fun e w' => e = .returned (.int .i64 (-1)) ∧ Below w.heap.size w w' := by
  by_cases h0 : x < 0
  · have hd : decide (0 ≤ x) = false := decide_eq_false (by omega)
    clear h
    go_enter Try.func81, Try.ntmps81
    go_wp2
    go_ret
    exact ⟨rfl, by go_grown⟩
  · have q0 : 0 ≤ x := by omega
    have hd : decide (x < n) = false := decide_eq_false (by omega)
    clear h
    go_enter Try.func81, Try.ntmps81
    go_wp2
    go_ret
    exact ⟨rfl, by go_grown⟩
set_option maxHeartbeats 1000000 in
theorem band_is (p c n b r f g : Int) (x : Int) (h3 : 1 ≤ b) (h4 : b ≤ 4) (x0 : 1 ≤ x) (x1 : x ≤ 9999) (w : World) : Calls Try.prog 82 #[.agg #[.int .i64 p, .int .i64 c, .int .i64 n, .int .i64 b, .int .i64 r, .int .i64 f, .int .i64 g], .int .i64 x] w fun e w' => e = .returned (.int .i64 ((x - 1) * b / 9999)) ∧ Below w.heap.size w w' := by
  have m0 : 0 ≤ (x - 1) * b := by rcases (show b = 1 ∨ b = 2 ∨ b = 3 ∨ b = 4 by omega) with rfl | rfl | rfl | rfl <;> omega
  have m1 : (x - 1) * b ≤ 40000 := by rcases (show b = 1 ∨ b = 2 ∨ b = 3 ∨ b = 4 by omega) with rfl | rfl | rfl | rfl <;> omega
  go_enter Try.func82, Try.ntmps82
  go_wp2
  go_ret
  exact ⟨rfl, by go_grown⟩
theorem band_num {x b : Int} (h1 : 1 ≤ b) (h2 : b ≤ 4) (x1 : 1 ≤ x) (x2 : x ≤ 9999) : 0 ≤ (x - 1) * b / 9999 ∧ (x - 1) * b / 9999 < b := by
  rcases (show b = 1 ∨ b = 2 ∨ b = 3 ∨ b = 4 by omega) with rfl | rfl | rfl | rfl <;> omega
set_option maxHeartbeats 1000000 in
theorem band_no (p c n b r f g : Int) (x : Int) (h : x < 1 ∨ 9999 < x) (w : World) : Calls Try.prog 82 #[.agg #[.int .i64 p, .int .i64 c, .int .i64 n, .int .i64 b, .int .i64 r, .int .i64 f, .int .i64 g], .int .i64 x] w fun e w' => e = .returned (.int .i64 (-1)) ∧ Below w.heap.size w w' := by
  by_cases h0 : x < 1
  · clear h
    go_enter Try.func82, Try.ntmps82
    go_wp2
    go_ret
    exact ⟨rfl, by go_grown⟩
  · have h1 : 9999 < x := by omega
    have h2 : 1 ≤ x := by omega
    clear h h0
    go_enter Try.func82, Try.ntmps82
    go_wp2
    go_ret
    exact ⟨rfl, by go_grown⟩
set_option maxHeartbeats 1000000 in
theorem rsh_low (p c n b r f g : Int) (x y : Int) (w : World) (x0 : 0 ≤ x) (x1 : x < n) (h : y < 0) : Calls Try.prog 81 #[.agg #[.int .i64 p, .int .i64 c, .int .i64 n, .int .i64 b, .int .i64 r, .int .i64 f, .int .i64 g], .int .i64 x, .int .i64 y] w fun e w' => e = .returned (.int .i64 (-1)) ∧ Below w.heap.size w w' := by
  have hd : decide (0 ≤ y) = false := decide_eq_false (by omega)
  clear h
  go_enter Try.func81, Try.ntmps81
  go_wp2
  go_ret
  exact ⟨rfl, by go_grown⟩
/-- Terms. -/
structure Tm5 where
  n : Int
  s : Int
  p : Int
  l : Int
  u : Int
def tc (t : Tm5) : Value := .agg #[.int .i64 t.n, .int .i64 t.s, .int .i64 t.p, .int .i64 t.l, .int .i64 t.u]
def bandS (b x : Int) : Int := if 1 ≤ x ∧ x ≤ 9999 then (x - 1) * b / 9999 else -1
/-- The shard of terms. -/
def shS (n b : Int) (t : Tm5) : Int := if (0 ≤ t.n ∧ t.n < n) ∧ (1 ≤ t.p ∧ t.p ≤ 9999) then t.n * b + (t.p - 1) * b / 9999 else -1
theorem band_any (p c n b r f g : Int) (x : Int) (hb : 1 ≤ b ∧ b ≤ 4) (w : World) : Calls Try.prog 82 #[.agg #[.int .i64 p, .int .i64 c, .int .i64 n, .int .i64 b, .int .i64 r, .int .i64 f, .int .i64 g], .int .i64 x] w fun e w' => e = .returned (.int .i64 (bandS b x)) ∧ Below w.heap.size w w' := by
  unfold bandS
  by_cases h : 1 ≤ x ∧ x ≤ 9999
  · rw [if_pos h]; exact band_is p c n b r f g x hb.1 hb.2 h.1 h.2 w
  · rw [if_neg h]; exact band_no p c n b r f g x (by omega) w
theorem rsh_any (p c n b r f g : Int) (t : Tm5) (hn : 1 ≤ n ∧ n ≤ 3) (hb : 1 ≤ b ∧ b ≤ 4) (w : World) : Calls Try.prog 81 #[.agg #[.int .i64 p, .int .i64 c, .int .i64 n, .int .i64 b, .int .i64 r, .int .i64 f, .int .i64 g], .int .i64 t.n, .int .i64 (bandS b t.p)] w fun e w' => e = .returned (.int .i64 (shS n b t)) ∧ Below w.heap.size w w' := by
  unfold shS
  by_cases h : 0 ≤ t.n ∧ t.n < n
  · by_cases h2 : 1 ≤ t.p ∧ t.p ≤ 9999
    · rw [if_pos ⟨h, h2⟩]
      unfold bandS; rw [if_pos h2]
      have hbn := band_num hb.1 hb.2 h2.1 h2.2
      exact rsh_in p c n b r f g t.n _ w h.1 h.2 hbn.1 hbn.2 hb.2 hn.2
    · rw [if_neg (fun e => h2 e.2)]
      unfold bandS; rw [if_neg h2]
      exact rsh_low p c n b r f g t.n _ w h.1 h.2 (by decide)
  · rw [if_neg (fun e => h e.1)]
    exact rsh_out p c n b r f g t.n _ w h
set_option maxRecDepth 100000 in
set_option maxHeartbeats 4000000 in
theorem tsh_any (p c n b r f g : Int) (t : Tm5) (hn : 1 ≤ n ∧ n ≤ 3) (hb : 1 ≤ b ∧ b ≤ 4) (w : World) : Calls Try.prog 73 #[.agg #[.int .i64 p, .int .i64 c, .int .i64 n, .int .i64 b, .int .i64 r, .int .i64 f, .int .i64 g], tc t] w fun e w' => e = .returned (.int .i64 (shS n b t)) ∧ Below w.heap.size w w' := by
  have HBA := Lib.hid (fun W => band_any p c n b r f g t.p hb W)
  have HSA := Lib.hid (fun W => rsh_any p c n b r f g t hn hb W)
  clear hn hb
  generalize shS n b t = SS at *
  generalize bandS b t.p = VV at *
  obtain ⟨tn, ts, tp, tl, tu⟩ := t
  dsimp only at HBA HSA
  unfold tc
  have b2 := (Bl.new w [.int .i64 p, .int .i64 c, .int .i64 n, .int .i64 b, .int .i64 r, .int .i64 f, .int .i64 g] 52).below (w' := (w.alloc (.cells (List.toArray [.int .i64 p, .int .i64 c, .int .i64 n, .int .i64 b, .int .i64 r, .int .i64 f, .int .i64 g]) 52)).alloc (.cells (List.toArray [.int .i64 tn, .int .i64 ts, .int .i64 tp, .int .i64 tl, .int .i64 tu]) 44)) (by go_grown)
  have b3 := Bl.new (w.alloc (.cells (List.toArray [.int .i64 p, .int .i64 c, .int .i64 n, .int .i64 b, .int .i64 r, .int .i64 f, .int .i64 g]) 52)) [.int .i64 tn, .int .i64 ts, .int .i64 tp, .int .i64 tl, .int .i64 tu] 44
  rw [World.size_alloc] at b3
  go_enter Try.func73, Try.ntmps73
  go_wp2_with fail
  have hB : Below w.heap.size w ((w.alloc (.cells #[.int .i64 p, .int .i64 c, .int .i64 n, .int .i64 b, .int .i64 r, .int .i64 f, .int .i64 g] 52)).alloc (.cells #[.int .i64 tn, .int .i64 ts, .int .i64 tp, .int .i64 tl, .int .i64 tu] 44)) := by go_grown
  generalize ((w.alloc (.cells #[.int .i64 p, .int .i64 c, .int .i64 n, .int .i64 b, .int .i64 r, .int .i64 f, .int .i64 g] 52)).alloc (.cells #[.int .i64 tn, .int .i64 ts, .int .i64 tp, .int .i64 tl, .int .i64 tu] 44)) = w1 at *
  have HB1 := Lib.hid hB
  have hS0 : w1.drew.cell? ⟨w.heap.size, 0, none⟩ = some (.int .i64 p) ∧ w1.drew.cell? ⟨w.heap.size, 1, none⟩ = some (.int .i64 c) ∧ w1.drew.cell? ⟨w.heap.size, 2, none⟩ = some (.int .i64 n) ∧ w1.drew.cell? ⟨w.heap.size, 3, none⟩ = some (.int .i64 b) ∧ w1.drew.cell? ⟨w.heap.size, 4, none⟩ = some (.int .i64 r) ∧ w1.drew.cell? ⟨w.heap.size, 5, none⟩ = some (.int .i64 f) ∧ w1.drew.cell? ⟨w.heap.size, 6, none⟩ = some (.int .i64 g) ∧ w1.drew.cell? ⟨w.heap.size + 1, 0, none⟩ = some (.int .i64 tn) ∧ w1.drew.cell? ⟨w.heap.size + 1, 2, none⟩ = some (.int .i64 tp) := ⟨b2.cell 0 _ rfl, b2.cell 1 _ rfl, b2.cell 2 _ rfl, b2.cell 3 _ rfl, b2.cell 4 _ rfl, b2.cell 5 _ rfl, b2.cell 6 _ rfl, b3.cell 0 _ rfl, b3.cell 2 _ rfl⟩
  have L2 := Lib.hid (show Bl w.heap.size [.int .i64 p, .int .i64 c, .int .i64 n, .int .i64 b, .int .i64 r, .int .i64 f, .int .i64 g] w1.drew from b2)
  have L3 := Lib.hid (show Bl (w.heap.size + 1) [.int .i64 tn, .int .i64 ts, .int .i64 tp, .int .i64 tl, .int .i64 tu] w1.drew from b3)
  clear b2 b3 hB
  go_region_held3 (fun w' => w'.cell? ⟨w.heap.size, 0, none⟩ = some (.int .i64 p) ∧ w'.cell? ⟨w.heap.size, 1, none⟩ = some (.int .i64 c) ∧ w'.cell? ⟨w.heap.size, 2, none⟩ = some (.int .i64 n) ∧ w'.cell? ⟨w.heap.size, 3, none⟩ = some (.int .i64 b) ∧ w'.cell? ⟨w.heap.size, 4, none⟩ = some (.int .i64 r) ∧ w'.cell? ⟨w.heap.size, 5, none⟩ = some (.int .i64 f) ∧ w'.cell? ⟨w.heap.size, 6, none⟩ = some (.int .i64 g) ∧ w'.cell? ⟨w.heap.size + 1, 0, none⟩ = some (.int .i64 tn) ∧ w'.cell? ⟨w.heap.size + 1, 2, none⟩ = some (.int .i64 tp)) (first | with_reducible exact hS0 | with_reducible exact hS1 | with_reducible exact hS2 | fail)
    (first
      | ((with_reducible refine (HBA.out _).mono ?_); rintro e wy1 ⟨rfl, hby1⟩; have L4 := Lib.hid (L2.out.below (w' := wy1) hby1); have L5 := Lib.hid (L3.out.below (w' := wy1) hby1); have HB2 := Lib.hid hby1; have hS1 : wy1.cell? ⟨w.heap.size, 0, none⟩ = some (.int .i64 p) ∧ wy1.cell? ⟨w.heap.size, 1, none⟩ = some (.int .i64 c) ∧ wy1.cell? ⟨w.heap.size, 2, none⟩ = some (.int .i64 n) ∧ wy1.cell? ⟨w.heap.size, 3, none⟩ = some (.int .i64 b) ∧ wy1.cell? ⟨w.heap.size, 4, none⟩ = some (.int .i64 r) ∧ wy1.cell? ⟨w.heap.size, 5, none⟩ = some (.int .i64 f) ∧ wy1.cell? ⟨w.heap.size, 6, none⟩ = some (.int .i64 g) ∧ wy1.cell? ⟨w.heap.size + 1, 0, none⟩ = some (.int .i64 tn) ∧ wy1.cell? ⟨w.heap.size + 1, 2, none⟩ = some (.int .i64 tp) := ⟨L4.out.cell 0 _ rfl, L4.out.cell 1 _ rfl, L4.out.cell 2 _ rfl, L4.out.cell 3 _ rfl, L4.out.cell 4 _ rfl, L4.out.cell 5 _ rfl, L4.out.cell 6 _ rfl, L5.out.cell 0 _ rfl, L5.out.cell 2 _ rfl⟩; clear hby1)
      | ((with_reducible refine (HSA.out _).mono ?_); rintro e wy2 ⟨rfl, hby2⟩; have L6 := Lib.hid (L4.out.below (w' := wy2) hby2); have L7 := Lib.hid (L5.out.below (w' := wy2) hby2); have HB3 := Lib.hid hby2; have hS2 : wy2.cell? ⟨w.heap.size, 0, none⟩ = some (.int .i64 p) ∧ wy2.cell? ⟨w.heap.size, 1, none⟩ = some (.int .i64 c) ∧ wy2.cell? ⟨w.heap.size, 2, none⟩ = some (.int .i64 n) ∧ wy2.cell? ⟨w.heap.size, 3, none⟩ = some (.int .i64 b) ∧ wy2.cell? ⟨w.heap.size, 4, none⟩ = some (.int .i64 r) ∧ wy2.cell? ⟨w.heap.size, 5, none⟩ = some (.int .i64 f) ∧ wy2.cell? ⟨w.heap.size, 6, none⟩ = some (.int .i64 g) ∧ wy2.cell? ⟨w.heap.size + 1, 0, none⟩ = some (.int .i64 tn) ∧ wy2.cell? ⟨w.heap.size + 1, 2, none⟩ = some (.int .i64 tp) := ⟨L6.out.cell 0 _ rfl, L6.out.cell 1 _ rfl, L6.out.cell 2 _ rfl, L6.out.cell 3 _ rfl, L6.out.cell 4 _ rfl, L6.out.cell 5 _ rfl, L6.out.cell 6 _ rfl, L7.out.cell 0 _ rfl, L7.out.cell 2 _ rfl⟩; clear hby2)
      | fail)
  go_wp2
  go_ret
  exact ⟨rfl, Below.step (Below.step HB1.out.drew HB2.out) HB3.out⟩
/-- What two orders come to. -/
noncomputable def mtS (a b : Tm5) (l o : Int) : Option (Int × Int) := by
  classical
  exact if No a.n a.s a.p a.l b.n b.s b.p b.l l o then none else some (min l o, (a.p + b.p) / 2)
/-- Terms that may be, or none. -/
def VT (t : Tm5) : Prop := (1 ≤ t.p ∧ t.p ≤ 9999) ∨ t = ⟨0, 0, 0, 0, 0⟩
theorem match_of (a b : Tm5) (l o : Int) (ha : VT a) (hb : VT b) : (mtS a b l o = none ∧ ∀ w, Calls Try.prog 74 #[tc a, tc b, .int .i64 l, .int .i64 o] w (MatchPost w 0 0)) ∨ ∃ q p : Int, mtS a b l o = some (q, p) ∧ 1 ≤ q ∧ q ≤ l ∧ q ≤ o ∧ 1 ≤ p ∧ p ≤ 9999 ∧ ∀ w, Calls Try.prog 74 #[tc a, tc b, .int .i64 l, .int .i64 o] w (MatchPost w q p) := by
  by_cases h : No a.n a.s a.p a.l b.n b.s b.p b.l l o
  · left
    refine ⟨?_, fun w => match_no a.n a.s a.p a.l a.u b.n b.s b.p b.l b.u l o w h⟩
    unfold mtS; rw [if_pos h]
  · right
    refine ⟨min l o, (a.p + b.p) / 2, ?_, ?_⟩
    · unfold mtS; rw [if_neg h]
    · have hy := (yes_or_no a.n a.s a.p a.l b.n b.s b.p b.l l o).resolve_left h
      have h2 := hy
      unfold Yes at h2
      have hp : (1 ≤ a.p ∧ a.p ≤ 9999) ∧ (1 ≤ b.p ∧ b.p ≤ 9999) := by
        rcases ha with ha | rfl
        · rcases hb with hb | rfl
          · exact ⟨ha, hb⟩
          · dsimp only at h2; omega
        · rcases hb with hb | rfl
          · dsimp only at h2; omega
          · dsimp only at h2; omega
      exact ⟨by omega, by omega, by omega, by omega, by omega, fun w => match_yes a.n a.s a.p a.l a.u b.n b.s b.p b.l b.u l o _ _ w hy hp.1.1 hp.1.2 hp.2.1 hp.2.2⟩
end Go.Proofs.Ytmjkhefgpobinaa
namespace Go.Proofs.Ytmjkhefgpobinaa
open Go.ChangeShapes Go.WideShapes Go.ChangeAt Go.RowKit
/-- A try's cells. -/
def prc (aX aY : Int) (t : Tr Tm5) : List Value := [.int .i64 t.way, .int .i64 aX, .int .i64 t.gen, .int .i64 aY, .int .i64 t.shard, .int .i64 (t.pc : Int), .int .u64 (cw t.sx : Int), .int .i64 t.sx.kind, .bool t.sx.flag, .int .i64 t.sx.gen, .int .i64 t.sx.left, .int .i64 t.sx.fills, .int .i64 t.tx.n, .int .i64 t.tx.s, .int .i64 t.tx.p, .int .i64 t.tx.l, .int .i64 t.tx.u, .int .u64 (cw t.sy : Int), .int .i64 t.sy.kind, .bool t.sy.flag, .int .i64 t.sy.gen, .int .i64 t.sy.left, .int .i64 t.sy.fills, .int .i64 t.ty.n, .int .i64 t.ty.s, .int .i64 t.ty.p, .int .i64 t.ty.l, .int .i64 t.ty.u, .bool t.held, .bool t.made, .bool t.freed, .int .i64 t.q, .int .i64 t.p, .int .i64 t.tk, .int .i64 t.taken.kind, .bool t.taken.flag, .int .i64 t.taken.gen, .int .i64 t.taken.left, .int .i64 t.taken.fills, .int .u64 (cw t.nw : Int), .int .i64 t.nw.kind, .bool t.nw.flag, .int .i64 t.nw.gen, .int .i64 t.nw.left, .int .i64 t.nw.fills, .int .i64 0, .int .i64 0, .int .i64 0, .int .i64 0, .int .i64 0, .int .i64 t.lt.kind, .bool t.lt.flag, .int .i64 t.lt.gen, .int .i64 t.lt.left, .int .i64 t.lt.fills, .int .i64 t.ltk]
noncomputable def PmC (C : Cfg) : Pm Tm5 where
  F := C.f
  mt := mtS
  sh := shS C.n C.b
  buy := fun t => decide (t.s = 0)
section
variable {C : Cfg} {aX aY : Int} {t : Tr Tm5} {p : Nat} {w : World}
def RC (C : Cfg) : Value := .agg #[.int .i64 (C.p : Int), .int .i64 (C.c : Int), .int .i64 C.n, .int .i64 C.b, .int .i64 C.r, .int .i64 (C.f : Int), .int .i64 (C.g : Int)]
set_option maxRecDepth 100000 in
set_option maxHeartbeats 4000000 in
theorem mayHold_1 (hp : Bl p (prc aX aY t) w) (hw : t.way = 1 ∨ t.way = 2) : Calls Try.prog 59 #[.pointer (some ⟨p, 0, none⟩), RC C] w fun e w' => e = .returned (.bool (mayHold (PmC C) t)) ∧ Below w.heap.size w w' := by
  have hm : mayHold (PmC C) t = (decide (t.sx.kind = 1) && decide (t.sx.gen = t.gen)) := by
    unfold mayHold
    rw [if_pos hw]
  rw [hm]
  have c0 := hp.cell 0 _ rfl
  have c2 := hp.cell 2 _ rfl
  have c7 := hp.cell 7 _ rfl
  have c8 := hp.cell 8 _ rfl
  have c9 := hp.cell 9 _ rfl
  have c10 := hp.cell 10 _ rfl
  have c11 := hp.cell 11 _ rfl
  have hl := hp.lt
  clear hp hm
  unfold RC
  have tail : ∀ k1 : Bool, ∀ k2 : Bool, (t.sx.kind == 1) = k1 → (t.sx.gen == t.gen) = k2 → (decide (t.sx.kind = 1) && decide (t.sx.gen = t.gen)) = (k1 && k2) := fun k1 k2 e1 e2 => by
    rw [← e1, ← e2]
    rfl
  have hcs : (t.sx.kind == 1) = false ∨ ((t.sx.kind == 1) = true ∧ (t.sx.gen == t.gen) = true) ∨ ((t.sx.kind == 1) = true ∧ (t.sx.gen == t.gen) = false) := by
    cases (t.sx.kind == 1) <;> cases (t.sx.gen == t.gen) <;> simp
  rcases hcs with hk | ⟨hk, hg⟩ | ⟨hk, hg⟩
  · rw [tail _ _ hk rfl, Bool.false_and]
    clear tail
    rcases hw with hw | hw
    all_goals rw [hw] at c0
    all_goals clear hw
    all_goals go_enter Try.func59, Try.ntmps59
    all_goals go_wp2_with fail
    all_goals go_region
    all_goals go_wp2
    all_goals go_ret
    all_goals exact ⟨rfl, by go_grown⟩
  · rw [tail _ _ hk hg]
    clear tail
    rcases hw with hw | hw
    all_goals rw [hw] at c0
    all_goals clear hw
    all_goals go_enter Try.func59, Try.ntmps59
    all_goals go_wp2_with fail
    all_goals go_region
    all_goals go_wp2
    all_goals go_ret
    all_goals exact ⟨rfl, by go_grown⟩
  · rw [tail _ _ hk hg]
    clear tail
    rcases hw with hw | hw
    all_goals rw [hw] at c0
    all_goals clear hw
    all_goals go_enter Try.func59, Try.ntmps59
    all_goals go_wp2_with fail
    all_goals go_region
    all_goals go_wp2
    all_goals go_ret
    all_goals exact ⟨rfl, by go_grown⟩
set_option maxRecDepth 100000 in
set_option maxHeartbeats 4000000 in
theorem mayHold_0 (hp : Bl p (prc aX aY t) w) (h1 : t.way ≠ 1) (h2 : t.way ≠ 2) (h3 : t.way ≠ 3) : Calls Try.prog 59 #[.pointer (some ⟨p, 0, none⟩), RC C] w fun e w' => e = .returned (.bool (mayHold (PmC C) t)) ∧ Below w.heap.size w w' := by
  have hm : mayHold (PmC C) t = false := by
    unfold mayHold
    rw [if_neg (by omega), if_neg h3]
  rw [hm]
  have c0 := hp.cell 0 _ rfl
  have c7 := hp.cell 7 _ rfl
  have c8 := hp.cell 8 _ rfl
  have c9 := hp.cell 9 _ rfl
  have c10 := hp.cell 10 _ rfl
  have c11 := hp.cell 11 _ rfl
  have hl := hp.lt
  have d1 : (t.way == 1) = false := by simpa using h1
  have d2 : (t.way == 2) = false := by simpa using h2
  have d3 : (t.way == 3) = false := by simpa using h3
  clear hp hm h1 h2 h3
  unfold RC
  go_enter Try.func59, Try.ntmps59
  go_wp2_with fail
  go_ret
  exact ⟨rfl, by go_grown⟩
set_option maxRecDepth 100000 in
set_option maxHeartbeats 4000000 in
theorem mayHold_3 (hC : C.Ok) (hp : Bl p (prc aX aY t) w) (hw : t.way = 3) : Calls Try.prog 59 #[.pointer (some ⟨p, 0, none⟩), RC C] w fun e w' => e = .returned (.bool (mayHold (PmC C) t)) ∧ Below w.heap.size w w' := by
  have hm : mayHold (PmC C) t = ((t.sx.kind == 2) && ((t.tx.s == 0) && (shS C.n C.b t.tx == t.shard))) := by
    unfold mayHold
    rw [if_neg (by omega), if_pos hw]
    rfl
  rw [hm]
  have HSH := Lib.hid (fun W => tsh_any C.p C.c C.n C.b C.r C.f C.g t.tx hC.hn hC.hb W)
  unfold tc at HSH
  have c0 := hp.cell 0 _ rfl
  have c7 := hp.cell 7 _ rfl
  have c8 := hp.cell 8 _ rfl
  have c9 := hp.cell 9 _ rfl
  have c10 := hp.cell 10 _ rfl
  have c11 := hp.cell 11 _ rfl
  have c13 := hp.cell 13 _ rfl
  have hl := hp.lt
  have HP := Lib.hid hp
  rw [hw] at c0
  clear hp hm hw hC
  unfold RC
  generalize shS C.n C.b t.tx = SH at *
  have hcs : (t.sx.kind == 2) = false ∨ ((t.sx.kind == 2) = true ∧ (t.tx.s == 0) = false) ∨ ((t.sx.kind == 2) = true ∧ (t.tx.s == 0) = true) := by
    cases (t.sx.kind == 2) <;> cases (t.tx.s == 0) <;> simp
  rcases hcs with hk | ⟨hk, hg⟩ | ⟨hk, hg⟩
  · rw [hk, Bool.false_and]
    go_enter Try.func59, Try.ntmps59
    go_wp2_with fail
    go_region
    go_wp2
    go_ret
    exact ⟨rfl, by go_grown⟩
  · rw [hk, hg, Bool.false_and, Bool.and_false]
    go_enter Try.func59, Try.ntmps59
    go_wp2_with fail
    go_region
    go_wp2
    go_ret
    exact ⟨rfl, by go_grown⟩
  · rw [hk, hg, Bool.true_and, Bool.true_and]
    go_enter Try.func59, Try.ntmps59
    go_wp2_with fail
    have hB : Below w.heap.size w ((w.alloc (.cells #[.int .i64 (C.p : Int), .int .i64 (C.c : Int), .int .i64 C.n, .int .i64 C.b, .int .i64 C.r, .int .i64 (C.f : Int), .int .i64 (C.g : Int)] 52)).alloc (.cells #[.int .i64 t.sx.kind, .bool t.sx.flag, .int .i64 t.sx.gen, .int .i64 t.sx.left, .int .i64 t.sx.fills] 42)) := by go_grown
    have L2 := (Bl.new w [.int .i64 (C.p : Int), .int .i64 (C.c : Int), .int .i64 C.n, .int .i64 C.b, .int .i64 C.r, .int .i64 (C.f : Int), .int .i64 (C.g : Int)] 52).below (w' := ((w.alloc (.cells #[.int .i64 (C.p : Int), .int .i64 (C.c : Int), .int .i64 C.n, .int .i64 C.b, .int .i64 C.r, .int .i64 (C.f : Int), .int .i64 (C.g : Int)] 52)).alloc (.cells #[.int .i64 t.sx.kind, .bool t.sx.flag, .int .i64 t.sx.gen, .int .i64 t.sx.left, .int .i64 t.sx.fills] 42)).drew) (by go_grown)
    have L3 := Bl.new (w.alloc (.cells #[.int .i64 (C.p : Int), .int .i64 (C.c : Int), .int .i64 C.n, .int .i64 C.b, .int .i64 C.r, .int .i64 (C.f : Int), .int .i64 (C.g : Int)] 52)) [.int .i64 t.sx.kind, .bool t.sx.flag, .int .i64 t.sx.gen, .int .i64 t.sx.left, .int .i64 t.sx.fills] 42
    rw [World.size_alloc] at L3
    have L3d : Bl (w.heap.size + 1) [.int .i64 t.sx.kind, .bool t.sx.flag, .int .i64 t.sx.gen, .int .i64 t.sx.left, .int .i64 t.sx.fills] ((w.alloc (.cells #[.int .i64 (C.p : Int), .int .i64 (C.c : Int), .int .i64 C.n, .int .i64 C.b, .int .i64 C.r, .int .i64 (C.f : Int), .int .i64 (C.g : Int)] 52)).alloc (.cells #[.int .i64 t.sx.kind, .bool t.sx.flag, .int .i64 t.sx.gen, .int .i64 t.sx.left, .int .i64 t.sx.fills] 42)).drew := L3
    have L4 := HP.out.below hB.drew
    generalize ((w.alloc (.cells #[.int .i64 (C.p : Int), .int .i64 (C.c : Int), .int .i64 C.n, .int .i64 C.b, .int .i64 C.r, .int .i64 (C.f : Int), .int .i64 (C.g : Int)] 52)).alloc (.cells #[.int .i64 t.sx.kind, .bool t.sx.flag, .int .i64 t.sx.gen, .int .i64 t.sx.left, .int .i64 t.sx.fills] 42)) = w1 at *
    have HB1 := Lib.hid hB
    have hS0 : w1.drew.cell? ⟨w.heap.size, 0, none⟩ = some (.int .i64 (C.p : Int)) ∧ w1.drew.cell? ⟨w.heap.size, 1, none⟩ = some (.int .i64 (C.c : Int)) ∧ w1.drew.cell? ⟨w.heap.size, 2, none⟩ = some (.int .i64 C.n) ∧ w1.drew.cell? ⟨w.heap.size, 3, none⟩ = some (.int .i64 C.b) ∧ w1.drew.cell? ⟨w.heap.size, 4, none⟩ = some (.int .i64 C.r) ∧ w1.drew.cell? ⟨w.heap.size, 5, none⟩ = some (.int .i64 (C.f : Int)) ∧ w1.drew.cell? ⟨w.heap.size, 6, none⟩ = some (.int .i64 (C.g : Int)) ∧ w1.drew.cell? ⟨w.heap.size + 1, 0, none⟩ = some (.int .i64 t.sx.kind) ∧ w1.drew.cell? ⟨p, 4, none⟩ = some (.int .i64 t.shard) ∧ w1.drew.cell? ⟨p, 12, none⟩ = some (.int .i64 t.tx.n) ∧ w1.drew.cell? ⟨p, 13, none⟩ = some (.int .i64 t.tx.s) ∧ w1.drew.cell? ⟨p, 14, none⟩ = some (.int .i64 t.tx.p) ∧ w1.drew.cell? ⟨p, 15, none⟩ = some (.int .i64 t.tx.l) ∧ w1.drew.cell? ⟨p, 16, none⟩ = some (.int .i64 t.tx.u) := ⟨L2.cell 0 _ rfl, L2.cell 1 _ rfl, L2.cell 2 _ rfl, L2.cell 3 _ rfl, L2.cell 4 _ rfl, L2.cell 5 _ rfl, L2.cell 6 _ rfl, L3d.cell 0 _ rfl, L4.cell 4 _ rfl, L4.cell 12 _ rfl, L4.cell 13 _ rfl, L4.cell 14 _ rfl, L4.cell 15 _ rfl, L4.cell 16 _ rfl⟩
    have M2 := Lib.hid L2
    have M3 := Lib.hid L3d
    have M4 := Lib.hid L4
    clear L2 L3 L3d L4 hB
    go_region_held3 (fun w' => w'.cell? ⟨w.heap.size, 0, none⟩ = some (.int .i64 (C.p : Int)) ∧ w'.cell? ⟨w.heap.size, 1, none⟩ = some (.int .i64 (C.c : Int)) ∧ w'.cell? ⟨w.heap.size, 2, none⟩ = some (.int .i64 C.n) ∧ w'.cell? ⟨w.heap.size, 3, none⟩ = some (.int .i64 C.b) ∧ w'.cell? ⟨w.heap.size, 4, none⟩ = some (.int .i64 C.r) ∧ w'.cell? ⟨w.heap.size, 5, none⟩ = some (.int .i64 (C.f : Int)) ∧ w'.cell? ⟨w.heap.size, 6, none⟩ = some (.int .i64 (C.g : Int)) ∧ w'.cell? ⟨w.heap.size + 1, 0, none⟩ = some (.int .i64 t.sx.kind) ∧ w'.cell? ⟨p, 4, none⟩ = some (.int .i64 t.shard) ∧ w'.cell? ⟨p, 12, none⟩ = some (.int .i64 t.tx.n) ∧ w'.cell? ⟨p, 13, none⟩ = some (.int .i64 t.tx.s) ∧ w'.cell? ⟨p, 14, none⟩ = some (.int .i64 t.tx.p) ∧ w'.cell? ⟨p, 15, none⟩ = some (.int .i64 t.tx.l) ∧ w'.cell? ⟨p, 16, none⟩ = some (.int .i64 t.tx.u)) (first | with_reducible exact hS0 | with_reducible exact hS1 | fail)
      (first
        | ((with_reducible refine (HSH.out _).mono ?_); rintro e wy1 ⟨rfl, hby1⟩; have N2 := M2.out.below (w' := wy1) hby1; have N3 := M3.out.below (w' := wy1) hby1; have N4 := M4.out.below (w' := wy1) hby1; have HB2 := Lib.hid hby1; have hS1 : wy1.cell? ⟨w.heap.size, 0, none⟩ = some (.int .i64 (C.p : Int)) ∧ wy1.cell? ⟨w.heap.size, 1, none⟩ = some (.int .i64 (C.c : Int)) ∧ wy1.cell? ⟨w.heap.size, 2, none⟩ = some (.int .i64 C.n) ∧ wy1.cell? ⟨w.heap.size, 3, none⟩ = some (.int .i64 C.b) ∧ wy1.cell? ⟨w.heap.size, 4, none⟩ = some (.int .i64 C.r) ∧ wy1.cell? ⟨w.heap.size, 5, none⟩ = some (.int .i64 (C.f : Int)) ∧ wy1.cell? ⟨w.heap.size, 6, none⟩ = some (.int .i64 (C.g : Int)) ∧ wy1.cell? ⟨w.heap.size + 1, 0, none⟩ = some (.int .i64 t.sx.kind) ∧ wy1.cell? ⟨p, 4, none⟩ = some (.int .i64 t.shard) ∧ wy1.cell? ⟨p, 12, none⟩ = some (.int .i64 t.tx.n) ∧ wy1.cell? ⟨p, 13, none⟩ = some (.int .i64 t.tx.s) ∧ wy1.cell? ⟨p, 14, none⟩ = some (.int .i64 t.tx.p) ∧ wy1.cell? ⟨p, 15, none⟩ = some (.int .i64 t.tx.l) ∧ wy1.cell? ⟨p, 16, none⟩ = some (.int .i64 t.tx.u) := ⟨N2.cell 0 _ rfl, N2.cell 1 _ rfl, N2.cell 2 _ rfl, N2.cell 3 _ rfl, N2.cell 4 _ rfl, N2.cell 5 _ rfl, N2.cell 6 _ rfl, N3.cell 0 _ rfl, N4.cell 4 _ rfl, N4.cell 12 _ rfl, N4.cell 13 _ rfl, N4.cell 14 _ rfl, N4.cell 15 _ rfl, N4.cell 16 _ rfl⟩; clear hby1 N2 N3 N4)
        | fail)
    go_wp2
    go_ret
    exact ⟨rfl, Below.step HB1.out.drew HB2.out⟩
end
end Go.Proofs.Ytmjkhefgpobinaa
namespace Go.Proofs.Ytmjkhefgpobinaa
open Go.ChangeShapes Go.WideShapes Go.ChangeAt Go.RowKit
section
variable {C : Cfg} {aX aY : Int} {t : Tr Tm5} {p : Nat} {w : World}
theorem mayHold_is (hC : C.Ok) (hp : Bl p (prc aX aY t) w) : Calls Try.prog 59 #[.pointer (some ⟨p, 0, none⟩), RC C] w fun e w' => e = .returned (.bool (mayHold (PmC C) t)) ∧ Below w.heap.size w w' := by
  by_cases h1 : t.way = 1
  · exact mayHold_1 hp (.inl h1)
  by_cases h2 : t.way = 2
  · exact mayHold_1 hp (.inr h2)
  by_cases h3 : t.way = 3
  · exact mayHold_3 hC hp h3
  exact mayHold_0 hp h1 h2 h3
set_option maxRecDepth 100000 in
set_option maxHeartbeats 4000000 in
theorem mayTake_0 (hp : Bl p (prc aX aY t) w) (h1 : t.way ≠ 1) (h2 : t.way ≠ 2) (h3 : t.way ≠ 3) : Calls Try.prog 61 #[.pointer (some ⟨p, 0, none⟩), RC C] w fun e w' => e = .returned (.bool (mayTake (PmC C) t)) ∧ Below w.heap.size w w' := by
  have hm : mayTake (PmC C) t = false := by
    unfold mayTake
    rw [if_neg h1, if_neg h2, if_neg h3]
  rw [hm]
  have c0 := hp.cell 0 _ rfl
  have hl := hp.lt
  have d1 : (t.way == 1) = false := by simpa using h1
  have d2 : (t.way == 2) = false := by simpa using h2
  have d3 : (t.way == 3) = false := by simpa using h3
  clear hp hm h1 h2 h3
  unfold RC
  go_enter Try.func61, Try.ntmps61
  go_wp2_with fail
  go_ret
  exact ⟨rfl, by go_grown⟩
set_option maxRecDepth 100000 in
set_option maxHeartbeats 4000000 in
theorem mayTake_1 (hp : Bl p (prc aX aY t) w) (hw : t.way = 1) : Calls Try.prog 61 #[.pointer (some ⟨p, 0, none⟩), RC C] w fun e w' => e = .returned (.bool (mayTake (PmC C) t)) ∧ Below w.heap.size w w' := by
  have hm : mayTake (PmC C) t = (t.sy.kind == 1) := by
    unfold mayTake
    rw [if_pos hw]
    rfl
  rw [hm]
  have c0 := hp.cell 0 _ rfl
  have c18 := hp.cell 18 _ rfl
  have hl := hp.lt
  rw [hw] at c0
  clear hp hm hw
  unfold RC
  go_enter Try.func61, Try.ntmps61
  go_wp2_with fail
  go_ret
  exact ⟨rfl, by go_grown⟩
set_option maxRecDepth 100000 in
set_option maxHeartbeats 4000000 in
theorem mayTake_3 (hp : Bl p (prc aX aY t) w) (hw : t.way = 3) : Calls Try.prog 61 #[.pointer (some ⟨p, 0, none⟩), RC C] w fun e w' => e = .returned (.bool (mayTake (PmC C) t)) ∧ Below w.heap.size w w' := by
  have hm : mayTake (PmC C) t = (t.sy.kind == 2) := by
    unfold mayTake
    rw [if_neg (by omega), if_neg (by omega), if_pos hw]
    rfl
  rw [hm]
  have c0 := hp.cell 0 _ rfl
  have c18 := hp.cell 18 _ rfl
  have hl := hp.lt
  rw [hw] at c0
  clear hp hm hw
  unfold RC
  go_enter Try.func61, Try.ntmps61
  go_wp2_with fail
  go_ret
  exact ⟨rfl, by go_grown⟩
set_option maxRecDepth 100000 in
set_option maxHeartbeats 4000000 in
theorem mayTake_2 (hC : C.Ok) (hp : Bl p (prc aX aY t) w) (hw : t.way = 2) : Calls Try.prog 61 #[.pointer (some ⟨p, 0, none⟩), RC C] w fun e w' => e = .returned (.bool (mayTake (PmC C) t)) ∧ Below w.heap.size w w' := by
  have hm : mayTake (PmC C) t = ((shS C.n C.b t.ty == t.shard) && (t.sy.kind == 2)) := by
    unfold mayTake
    rw [if_neg (by omega), if_pos hw]
    rfl
  rw [hm]
  have HSH := Lib.hid (fun W => tsh_any C.p C.c C.n C.b C.r C.f C.g t.ty hC.hn hC.hb W)
  unfold tc at HSH
  have c0 := hp.cell 0 _ rfl
  have hl := hp.lt
  have HP := Lib.hid hp
  rw [hw] at c0
  clear hp hm hw hC
  unfold RC
  generalize shS C.n C.b t.ty = SH at *
  have hcs : ((SH == t.shard) = true ∧ (SH != t.shard) = false) ∨ ((SH == t.shard) = false ∧ (SH != t.shard) = true) := by
    unfold bne
    cases (SH == t.shard) <;> simp
  rcases hcs with ⟨hk, hg⟩ | ⟨hk, hg⟩
  · rw [hk, Bool.true_and]
    go_enter Try.func61, Try.ntmps61
    go_wp2_with fail
    have hB : Below w.heap.size w (w.alloc (.cells #[.int .i64 (C.p : Int), .int .i64 (C.c : Int), .int .i64 C.n, .int .i64 C.b, .int .i64 C.r, .int .i64 (C.f : Int), .int .i64 (C.g : Int)] 52)) := by go_grown
    have L2 := (Bl.new w [.int .i64 (C.p : Int), .int .i64 (C.c : Int), .int .i64 C.n, .int .i64 C.b, .int .i64 C.r, .int .i64 (C.f : Int), .int .i64 (C.g : Int)] 52)
    have L2d : Bl w.heap.size [.int .i64 (C.p : Int), .int .i64 (C.c : Int), .int .i64 C.n, .int .i64 C.b, .int .i64 C.r, .int .i64 (C.f : Int), .int .i64 (C.g : Int)] (w.alloc (.cells #[.int .i64 (C.p : Int), .int .i64 (C.c : Int), .int .i64 C.n, .int .i64 C.b, .int .i64 C.r, .int .i64 (C.f : Int), .int .i64 (C.g : Int)] 52)).drew := L2
    have L4 := HP.out.below hB.drew
    generalize (w.alloc (.cells #[.int .i64 (C.p : Int), .int .i64 (C.c : Int), .int .i64 C.n, .int .i64 C.b, .int .i64 C.r, .int .i64 (C.f : Int), .int .i64 (C.g : Int)] 52)) = w1 at *
    have HB1 := Lib.hid hB
    have hS0 : w1.drew.cell? ⟨w.heap.size, 0, none⟩ = some (.int .i64 (C.p : Int)) ∧ w1.drew.cell? ⟨w.heap.size, 1, none⟩ = some (.int .i64 (C.c : Int)) ∧ w1.drew.cell? ⟨w.heap.size, 2, none⟩ = some (.int .i64 C.n) ∧ w1.drew.cell? ⟨w.heap.size, 3, none⟩ = some (.int .i64 C.b) ∧ w1.drew.cell? ⟨w.heap.size, 4, none⟩ = some (.int .i64 C.r) ∧ w1.drew.cell? ⟨w.heap.size, 5, none⟩ = some (.int .i64 (C.f : Int)) ∧ w1.drew.cell? ⟨w.heap.size, 6, none⟩ = some (.int .i64 (C.g : Int)) ∧ w1.drew.cell? ⟨p, 4, none⟩ = some (.int .i64 t.shard) ∧ w1.drew.cell? ⟨p, 23, none⟩ = some (.int .i64 t.ty.n) ∧ w1.drew.cell? ⟨p, 24, none⟩ = some (.int .i64 t.ty.s) ∧ w1.drew.cell? ⟨p, 25, none⟩ = some (.int .i64 t.ty.p) ∧ w1.drew.cell? ⟨p, 26, none⟩ = some (.int .i64 t.ty.l) ∧ w1.drew.cell? ⟨p, 27, none⟩ = some (.int .i64 t.ty.u) := ⟨L2d.cell 0 _ rfl, L2d.cell 1 _ rfl, L2d.cell 2 _ rfl, L2d.cell 3 _ rfl, L2d.cell 4 _ rfl, L2d.cell 5 _ rfl, L2d.cell 6 _ rfl, L4.cell 4 _ rfl, L4.cell 23 _ rfl, L4.cell 24 _ rfl, L4.cell 25 _ rfl, L4.cell 26 _ rfl, L4.cell 27 _ rfl⟩
    have M2 := Lib.hid L2d
    have M4 := Lib.hid L4
    clear L2 L2d L4 hB
    go_region_held3 (fun w' => w'.cell? ⟨w.heap.size, 0, none⟩ = some (.int .i64 (C.p : Int)) ∧ w'.cell? ⟨w.heap.size, 1, none⟩ = some (.int .i64 (C.c : Int)) ∧ w'.cell? ⟨w.heap.size, 2, none⟩ = some (.int .i64 C.n) ∧ w'.cell? ⟨w.heap.size, 3, none⟩ = some (.int .i64 C.b) ∧ w'.cell? ⟨w.heap.size, 4, none⟩ = some (.int .i64 C.r) ∧ w'.cell? ⟨w.heap.size, 5, none⟩ = some (.int .i64 (C.f : Int)) ∧ w'.cell? ⟨w.heap.size, 6, none⟩ = some (.int .i64 (C.g : Int)) ∧ w'.cell? ⟨p, 4, none⟩ = some (.int .i64 t.shard) ∧ w'.cell? ⟨p, 23, none⟩ = some (.int .i64 t.ty.n) ∧ w'.cell? ⟨p, 24, none⟩ = some (.int .i64 t.ty.s) ∧ w'.cell? ⟨p, 25, none⟩ = some (.int .i64 t.ty.p) ∧ w'.cell? ⟨p, 26, none⟩ = some (.int .i64 t.ty.l) ∧ w'.cell? ⟨p, 27, none⟩ = some (.int .i64 t.ty.u)) (first | with_reducible exact hS0 | with_reducible exact hS1 | fail)
      (first
        | ((with_reducible refine (HSH.out _).mono ?_); rintro e wy1 ⟨rfl, hby1⟩; have N2 := M2.out.below (w' := wy1) hby1; have N4 := M4.out.below (w' := wy1) hby1; have HB2 := Lib.hid hby1; have c18 := N4.cell 18 _ rfl; have lp := N4.lt; have hS1 : wy1.cell? ⟨w.heap.size, 0, none⟩ = some (.int .i64 (C.p : Int)) ∧ wy1.cell? ⟨w.heap.size, 1, none⟩ = some (.int .i64 (C.c : Int)) ∧ wy1.cell? ⟨w.heap.size, 2, none⟩ = some (.int .i64 C.n) ∧ wy1.cell? ⟨w.heap.size, 3, none⟩ = some (.int .i64 C.b) ∧ wy1.cell? ⟨w.heap.size, 4, none⟩ = some (.int .i64 C.r) ∧ wy1.cell? ⟨w.heap.size, 5, none⟩ = some (.int .i64 (C.f : Int)) ∧ wy1.cell? ⟨w.heap.size, 6, none⟩ = some (.int .i64 (C.g : Int)) ∧ wy1.cell? ⟨p, 4, none⟩ = some (.int .i64 t.shard) ∧ wy1.cell? ⟨p, 23, none⟩ = some (.int .i64 t.ty.n) ∧ wy1.cell? ⟨p, 24, none⟩ = some (.int .i64 t.ty.s) ∧ wy1.cell? ⟨p, 25, none⟩ = some (.int .i64 t.ty.p) ∧ wy1.cell? ⟨p, 26, none⟩ = some (.int .i64 t.ty.l) ∧ wy1.cell? ⟨p, 27, none⟩ = some (.int .i64 t.ty.u) := ⟨N2.cell 0 _ rfl, N2.cell 1 _ rfl, N2.cell 2 _ rfl, N2.cell 3 _ rfl, N2.cell 4 _ rfl, N2.cell 5 _ rfl, N2.cell 6 _ rfl, N4.cell 4 _ rfl, N4.cell 23 _ rfl, N4.cell 24 _ rfl, N4.cell 25 _ rfl, N4.cell 26 _ rfl, N4.cell 27 _ rfl⟩; clear hby1 N2 N4)
        | fail)
    go_wp2
    go_ret
    exact ⟨rfl, Below.step HB1.out.drew HB2.out⟩
  · rw [hk, Bool.false_and]
    go_enter Try.func61, Try.ntmps61
    go_wp2_with fail
    have hB : Below w.heap.size w (w.alloc (.cells #[.int .i64 (C.p : Int), .int .i64 (C.c : Int), .int .i64 C.n, .int .i64 C.b, .int .i64 C.r, .int .i64 (C.f : Int), .int .i64 (C.g : Int)] 52)) := by go_grown
    have L2 := (Bl.new w [.int .i64 (C.p : Int), .int .i64 (C.c : Int), .int .i64 C.n, .int .i64 C.b, .int .i64 C.r, .int .i64 (C.f : Int), .int .i64 (C.g : Int)] 52)
    have L2d : Bl w.heap.size [.int .i64 (C.p : Int), .int .i64 (C.c : Int), .int .i64 C.n, .int .i64 C.b, .int .i64 C.r, .int .i64 (C.f : Int), .int .i64 (C.g : Int)] (w.alloc (.cells #[.int .i64 (C.p : Int), .int .i64 (C.c : Int), .int .i64 C.n, .int .i64 C.b, .int .i64 C.r, .int .i64 (C.f : Int), .int .i64 (C.g : Int)] 52)).drew := L2
    have L4 := HP.out.below hB.drew
    generalize (w.alloc (.cells #[.int .i64 (C.p : Int), .int .i64 (C.c : Int), .int .i64 C.n, .int .i64 C.b, .int .i64 C.r, .int .i64 (C.f : Int), .int .i64 (C.g : Int)] 52)) = w1 at *
    have HB1 := Lib.hid hB
    have hS0 : w1.drew.cell? ⟨w.heap.size, 0, none⟩ = some (.int .i64 (C.p : Int)) ∧ w1.drew.cell? ⟨w.heap.size, 1, none⟩ = some (.int .i64 (C.c : Int)) ∧ w1.drew.cell? ⟨w.heap.size, 2, none⟩ = some (.int .i64 C.n) ∧ w1.drew.cell? ⟨w.heap.size, 3, none⟩ = some (.int .i64 C.b) ∧ w1.drew.cell? ⟨w.heap.size, 4, none⟩ = some (.int .i64 C.r) ∧ w1.drew.cell? ⟨w.heap.size, 5, none⟩ = some (.int .i64 (C.f : Int)) ∧ w1.drew.cell? ⟨w.heap.size, 6, none⟩ = some (.int .i64 (C.g : Int)) ∧ w1.drew.cell? ⟨p, 4, none⟩ = some (.int .i64 t.shard) ∧ w1.drew.cell? ⟨p, 23, none⟩ = some (.int .i64 t.ty.n) ∧ w1.drew.cell? ⟨p, 24, none⟩ = some (.int .i64 t.ty.s) ∧ w1.drew.cell? ⟨p, 25, none⟩ = some (.int .i64 t.ty.p) ∧ w1.drew.cell? ⟨p, 26, none⟩ = some (.int .i64 t.ty.l) ∧ w1.drew.cell? ⟨p, 27, none⟩ = some (.int .i64 t.ty.u) := ⟨L2d.cell 0 _ rfl, L2d.cell 1 _ rfl, L2d.cell 2 _ rfl, L2d.cell 3 _ rfl, L2d.cell 4 _ rfl, L2d.cell 5 _ rfl, L2d.cell 6 _ rfl, L4.cell 4 _ rfl, L4.cell 23 _ rfl, L4.cell 24 _ rfl, L4.cell 25 _ rfl, L4.cell 26 _ rfl, L4.cell 27 _ rfl⟩
    have M2 := Lib.hid L2d
    have M4 := Lib.hid L4
    clear L2 L2d L4 hB
    go_region_held3 (fun w' => w'.cell? ⟨w.heap.size, 0, none⟩ = some (.int .i64 (C.p : Int)) ∧ w'.cell? ⟨w.heap.size, 1, none⟩ = some (.int .i64 (C.c : Int)) ∧ w'.cell? ⟨w.heap.size, 2, none⟩ = some (.int .i64 C.n) ∧ w'.cell? ⟨w.heap.size, 3, none⟩ = some (.int .i64 C.b) ∧ w'.cell? ⟨w.heap.size, 4, none⟩ = some (.int .i64 C.r) ∧ w'.cell? ⟨w.heap.size, 5, none⟩ = some (.int .i64 (C.f : Int)) ∧ w'.cell? ⟨w.heap.size, 6, none⟩ = some (.int .i64 (C.g : Int)) ∧ w'.cell? ⟨p, 4, none⟩ = some (.int .i64 t.shard) ∧ w'.cell? ⟨p, 23, none⟩ = some (.int .i64 t.ty.n) ∧ w'.cell? ⟨p, 24, none⟩ = some (.int .i64 t.ty.s) ∧ w'.cell? ⟨p, 25, none⟩ = some (.int .i64 t.ty.p) ∧ w'.cell? ⟨p, 26, none⟩ = some (.int .i64 t.ty.l) ∧ w'.cell? ⟨p, 27, none⟩ = some (.int .i64 t.ty.u)) (first | with_reducible exact hS0 | with_reducible exact hS1 | fail)
      (first
        | ((with_reducible refine (HSH.out _).mono ?_); rintro e wy1 ⟨rfl, hby1⟩; have N2 := M2.out.below (w' := wy1) hby1; have N4 := M4.out.below (w' := wy1) hby1; have HB2 := Lib.hid hby1; have c18 := N4.cell 18 _ rfl; have lp := N4.lt; have hS1 : wy1.cell? ⟨w.heap.size, 0, none⟩ = some (.int .i64 (C.p : Int)) ∧ wy1.cell? ⟨w.heap.size, 1, none⟩ = some (.int .i64 (C.c : Int)) ∧ wy1.cell? ⟨w.heap.size, 2, none⟩ = some (.int .i64 C.n) ∧ wy1.cell? ⟨w.heap.size, 3, none⟩ = some (.int .i64 C.b) ∧ wy1.cell? ⟨w.heap.size, 4, none⟩ = some (.int .i64 C.r) ∧ wy1.cell? ⟨w.heap.size, 5, none⟩ = some (.int .i64 (C.f : Int)) ∧ wy1.cell? ⟨w.heap.size, 6, none⟩ = some (.int .i64 (C.g : Int)) ∧ wy1.cell? ⟨p, 4, none⟩ = some (.int .i64 t.shard) ∧ wy1.cell? ⟨p, 23, none⟩ = some (.int .i64 t.ty.n) ∧ wy1.cell? ⟨p, 24, none⟩ = some (.int .i64 t.ty.s) ∧ wy1.cell? ⟨p, 25, none⟩ = some (.int .i64 t.ty.p) ∧ wy1.cell? ⟨p, 26, none⟩ = some (.int .i64 t.ty.l) ∧ wy1.cell? ⟨p, 27, none⟩ = some (.int .i64 t.ty.u) := ⟨N2.cell 0 _ rfl, N2.cell 1 _ rfl, N2.cell 2 _ rfl, N2.cell 3 _ rfl, N2.cell 4 _ rfl, N2.cell 5 _ rfl, N2.cell 6 _ rfl, N4.cell 4 _ rfl, N4.cell 23 _ rfl, N4.cell 24 _ rfl, N4.cell 25 _ rfl, N4.cell 26 _ rfl, N4.cell 27 _ rfl⟩; clear hby1 N2 N4)
        | fail)
    go_wp2
    go_ret
    exact ⟨rfl, Below.step HB1.out.drew HB2.out⟩
theorem mayTake_is (hC : C.Ok) (hp : Bl p (prc aX aY t) w) : Calls Try.prog 61 #[.pointer (some ⟨p, 0, none⟩), RC C] w fun e w' => e = .returned (.bool (mayTake (PmC C) t)) ∧ Below w.heap.size w w' := by
  by_cases h1 : t.way = 1
  · exact mayTake_1 hp h1
  by_cases h2 : t.way = 2
  · exact mayTake_2 hC hp h2
  by_cases h3 : t.way = 3
  · exact mayTake_3 hp h3
  exact mayTake_0 hp h1 h2 h3
end
end Go.Proofs.Ytmjkhefgpobinaa
namespace Go.Proofs.Ytmjkhefgpobinaa
open Go.ChangeShapes Go.WideShapes Go.ChangeAt Go.RowKit
def zt (t : Tm5) : Nat → Int := tz t.n t.s t.p t.l t.u
def FitT5 (t : Tm5) : Prop := FitsT (zt t)
/-- Terms' word. -/
def tw (t : Tm5) : Nat := word sht (zt t) 5
theorem tv_tw (t : Tm5) (h : FitT5 t) : tv (tw t) = tc t := by
  have h1 := fld_word sht_steps h
  have e0 : fld sht (tw t) 0 = t.n := h1 0 (by decide)
  have e1 : fld sht (tw t) 1 = t.s := h1 1 (by decide)
  have e2 : fld sht (tw t) 2 = t.p := h1 2 (by decide)
  have e3 : fld sht (tw t) 3 = t.l := h1 3 (by decide)
  have e4 : fld sht (tw t) 4 = t.u := h1 4 (by decide)
  unfold tv tc
  rw [e0, e1, e2, e3, e4]
/-- All stays but the memory's blocks and a try's. -/
structure Fq (M B p : Nat) (w w' : World) : Prop where
  os : w'.os = w.os
  tape : w'.tape = w.tape
  output : w'.output = w.output
  size : w.heap.size ≤ w'.heap.size
  block : ∀ g, g < w.heap.size → g ≠ M → g ≠ B → g ≠ p → w'.heap[g]? = w.heap[g]?
theorem Fq.of {M B p : Nat} {w w' : World} (h : Fm M B w w') : Fq M B p w w' := ⟨h.os, h.tape, h.output, h.size, fun g hg h1 h2 _ => h.block g hg h1 h2⟩
theorem Fq.set {M B p : Nat} {w w' : World} (h : Fq M B p w w') (j : Nat) (v : Value) : Fq M B p w (w'.setCell ⟨p, j, none⟩ v) :=
  ⟨h.os, h.tape, h.output, by rw [World.size_setCell]; exact h.size, fun g hg h1 h2 h3 => (Below.heap_setCell w' ⟨p, j, none⟩ v g h3).trans (h.block g hg h1 h2 h3)⟩
theorem Fq.trans {M B p : Nat} {w w1 w2 : World} (h : Fq M B p w w1) (g : Fq M B p w1 w2) : Fq M B p w w2 :=
  ⟨g.os.trans h.os, g.tape.trans h.tape, g.output.trans h.output, Nat.le_trans h.size g.size, fun x hx h1 h2 h3 => (g.block x (Nat.lt_of_lt_of_le hx h.size) h1 h2 h3).trans (h.block x hx h1 h2 h3)⟩
/-- A try's block is none of the world's. -/
structure Ap (K W M B Ck p : Nat) : Prop where
  lo : p < K
  nW : p ≠ W
  nM : p ≠ M
  nB : p ≠ B
  nC : p ≠ Ck
section
variable {K : Nat} {C : Cfg} {W M B Ck p : Nat} {ws ws' : Nat → Int} {st st' now : Int} {lv : Value} {L : List Lg} {w w' : World} {aX aY : Int} {t : Tr Tm5}
theorem PW.pset (h : PW K C W M B Ck ws st now lv L w) (ha : Ap K W M B Ck p) (j : Nat) (v : Value) : PW K C W M B Ck ws st now lv L (w.setCell ⟨p, j, none⟩ v) := by
  have e1 : ∀ k, k ≠ p → (w.setCell ⟨p, j, none⟩ v).heap[k]? = w.heap[k]? := fun k h2 => Below.heap_setCell w ⟨p, j, none⟩ v k h2
  have hz : (w.setCell ⟨p, j, none⟩ v).heap.size = w.heap.size := by simp
  refine ⟨h.blk.far (p := ⟨p, j, none⟩) ha.nW v, h.mem.far (e1 M (Ne.symm ha.nM)) (e1 B (Ne.symm ha.nB)) (by rw [hz]; omega), h.clk.far (p := ⟨p, j, none⟩) ha.nC v, ?_, h.lo, by rw [hz]; exact h.hK, h.ne⟩
  exact rfar h.row fun k h1 _ => e1 k (by have := ha.lo; omega)
set_option maxRecDepth 100000 in
set_option maxHeartbeats 8000000 in
theorem try_0 (h : PW K C W M B Ck ws st now lv L w) (hC : C.Ok) (ha : Ap K W M B Ck p) (hp : Bl p (prc aX aY t) w) (s : Cs) (hs : FitS s) (i : Nat) (hi : i < C.A) (hx : ws (2 * i) = (cw s : Int)) (hax : aX = (i : Int)) (hst : 0 ≤ st ∧ st ≤ 1000000) :
    Calls Try.prog 38 #[.pointer (some ⟨p, 0, none⟩), .pointer (some ⟨W, 0, none⟩), .int .i64 0] w fun e w' => e = .returned (.tuple #[]) ∧ PW K C W M B Ck ws (st + 1) now lv L w' ∧ Bl p (prc aX aY { t with sx := s }) w' ∧ Fq M B p w w' := by
  have HCALL := Lib.hid (fun (W' : World) (hW' : PW K C W M B Ck ws st now lv L W') => show Calls Try.prog 13 #[.pointer (some ⟨W, 0, none⟩), .int .i64 (i : Int)] W' fun e w' => e = .returned (.tuple #[.int .u64 (cw s : Int), sc s]) ∧ PW K C W M B Ck ws (st + 1) now lv L w' ∧ Fm M B W' w' from by
    have hc := state_w hW' hC i hi (cw s) hx hst
    rw [sv_cw s hs] at hc
    exact hc)
  have c1 := hp.cell 1 _ rfl
  rw [hax] at c1
  have H := Lib.hid h
  have HP := Lib.hid hp
  have HA := Lib.hid ha
  have hl := hp.lt
  clear h hp hax hC hs hx hst ha
  unfold sc at HCALL
  go_enter Try.func38, Try.ntmps38
  go_wp2_with fail
  refine (HCALL.out _ H.out).mono ?_
  rintro e w1 ⟨rfl, hP1, hF1⟩
  have HP1 := Lib.hid hP1
  have hp1 := hF1.bl HP.out HA.out.nM HA.out.nB
  have HF1 := Lib.hid hF1
  have HB1 := Lib.hid hp1
  have d6 := hp1.cell 6 _ rfl
  have f6 := hp1.frz 6
  have d7 := hp1.cell 7 _ rfl
  have f7 := hp1.frz 7
  have d8 := hp1.cell 8 _ rfl
  have f8 := hp1.frz 8
  have d9 := hp1.cell 9 _ rfl
  have f9 := hp1.frz 9
  have d10 := hp1.cell 10 _ rfl
  have f10 := hp1.frz 10
  have d11 := hp1.cell 11 _ rfl
  have f11 := hp1.frz 11
  have hl1 := hp1.lt
  clear hP1 hF1 hp1
  go_wp2
  go_end0
  refine ⟨rfl, ((((((HP1.out.pset HA.out 6 _).pset HA.out 7 _).pset HA.out 8 _).pset HA.out 9 _).pset HA.out 10 _).pset HA.out 11 _), ((((((HB1.out.set 6 _).set 7 _).set 8 _).set 9 _).set 10 _).set 11 _), (((((((Fq.of HF1.out).set 6 _).set 7 _).set 8 _).set 9 _).set 10 _).set 11 _)⟩
set_option maxRecDepth 100000 in
set_option maxHeartbeats 8000000 in
theorem try_1 (h : PW K C W M B Ck ws st now lv L w) (hC : C.Ok) (ha : Ap K W M B Ck p) (hp : Bl p (prc aX aY t) w) (s : Tm5) (hs : FitT5 s) (i : Nat) (hi : i < C.A) (hx : ws (2 * i + 1) = (tw s : Int)) (hax : aX = (i : Int)) (hst : 0 ≤ st ∧ st ≤ 1000000) :
    Calls Try.prog 38 #[.pointer (some ⟨p, 0, none⟩), .pointer (some ⟨W, 0, none⟩), .int .i64 1] w fun e w' => e = .returned (.tuple #[]) ∧ PW K C W M B Ck ws (st + 1) now lv L w' ∧ Bl p (prc aX aY { t with tx := s }) w' ∧ Fq M B p w w' := by
  have HCALL := Lib.hid (fun (W' : World) (hW' : PW K C W M B Ck ws st now lv L W') => show Calls Try.prog 58 #[.pointer (some ⟨W, 0, none⟩), .int .i64 (i : Int)] W' fun e w' => e = .returned (tc s) ∧ PW K C W M B Ck ws (st + 1) now lv L w' ∧ Fm M B W' w' from by
    have hc := terms_w hW' hC i hi (tw s) hx hst
    rw [tv_tw s hs] at hc
    exact hc)
  have c1 := hp.cell 1 _ rfl
  rw [hax] at c1
  have H := Lib.hid h
  have HP := Lib.hid hp
  have HA := Lib.hid ha
  have hl := hp.lt
  clear h hp hax hC hs hx hst ha
  unfold tc at HCALL
  go_enter Try.func38, Try.ntmps38
  go_wp2_with fail
  refine (HCALL.out _ H.out).mono ?_
  rintro e w1 ⟨rfl, hP1, hF1⟩
  have HP1 := Lib.hid hP1
  have hp1 := hF1.bl HP.out HA.out.nM HA.out.nB
  have HF1 := Lib.hid hF1
  have HB1 := Lib.hid hp1
  have d12 := hp1.cell 12 _ rfl
  have f12 := hp1.frz 12
  have d13 := hp1.cell 13 _ rfl
  have f13 := hp1.frz 13
  have d14 := hp1.cell 14 _ rfl
  have f14 := hp1.frz 14
  have d15 := hp1.cell 15 _ rfl
  have f15 := hp1.frz 15
  have d16 := hp1.cell 16 _ rfl
  have f16 := hp1.frz 16
  have hl1 := hp1.lt
  clear hP1 hF1 hp1
  go_wp2
  go_end0
  refine ⟨rfl, (((((HP1.out.pset HA.out 12 _).pset HA.out 13 _).pset HA.out 14 _).pset HA.out 15 _).pset HA.out 16 _), (((((HB1.out.set 12 _).set 13 _).set 14 _).set 15 _).set 16 _), ((((((Fq.of HF1.out).set 12 _).set 13 _).set 14 _).set 15 _).set 16 _)⟩
set_option maxRecDepth 100000 in
set_option maxHeartbeats 8000000 in
theorem try_3 (h : PW K C W M B Ck ws st now lv L w) (hC : C.Ok) (ha : Ap K W M B Ck p) (hp : Bl p (prc aX aY t) w) (s : Cs) (hs : FitS s) (i : Nat) (hi : i < C.A) (hx : ws (2 * i) = (cw s : Int)) (hax : aY = (i : Int)) (hst : 0 ≤ st ∧ st ≤ 1000000) :
    Calls Try.prog 38 #[.pointer (some ⟨p, 0, none⟩), .pointer (some ⟨W, 0, none⟩), .int .i64 3] w fun e w' => e = .returned (.tuple #[]) ∧ PW K C W M B Ck ws (st + 1) now lv L w' ∧ Bl p (prc aX aY { t with sy := s }) w' ∧ Fq M B p w w' := by
  have HCALL := Lib.hid (fun (W' : World) (hW' : PW K C W M B Ck ws st now lv L W') => show Calls Try.prog 13 #[.pointer (some ⟨W, 0, none⟩), .int .i64 (i : Int)] W' fun e w' => e = .returned (.tuple #[.int .u64 (cw s : Int), sc s]) ∧ PW K C W M B Ck ws (st + 1) now lv L w' ∧ Fm M B W' w' from by
    have hc := state_w hW' hC i hi (cw s) hx hst
    rw [sv_cw s hs] at hc
    exact hc)
  have c1 := hp.cell 3 _ rfl
  rw [hax] at c1
  have H := Lib.hid h
  have HP := Lib.hid hp
  have HA := Lib.hid ha
  have hl := hp.lt
  clear h hp hax hC hs hx hst ha
  unfold sc at HCALL
  go_enter Try.func38, Try.ntmps38
  go_wp2_with fail
  refine (HCALL.out _ H.out).mono ?_
  rintro e w1 ⟨rfl, hP1, hF1⟩
  have HP1 := Lib.hid hP1
  have hp1 := hF1.bl HP.out HA.out.nM HA.out.nB
  have HF1 := Lib.hid hF1
  have HB1 := Lib.hid hp1
  have d17 := hp1.cell 17 _ rfl
  have f17 := hp1.frz 17
  have d18 := hp1.cell 18 _ rfl
  have f18 := hp1.frz 18
  have d19 := hp1.cell 19 _ rfl
  have f19 := hp1.frz 19
  have d20 := hp1.cell 20 _ rfl
  have f20 := hp1.frz 20
  have d21 := hp1.cell 21 _ rfl
  have f21 := hp1.frz 21
  have d22 := hp1.cell 22 _ rfl
  have f22 := hp1.frz 22
  have hl1 := hp1.lt
  clear hP1 hF1 hp1
  go_wp2
  go_end0
  refine ⟨rfl, ((((((HP1.out.pset HA.out 17 _).pset HA.out 18 _).pset HA.out 19 _).pset HA.out 20 _).pset HA.out 21 _).pset HA.out 22 _), ((((((HB1.out.set 17 _).set 18 _).set 19 _).set 20 _).set 21 _).set 22 _), (((((((Fq.of HF1.out).set 17 _).set 18 _).set 19 _).set 20 _).set 21 _).set 22 _)⟩
set_option maxRecDepth 100000 in
set_option maxHeartbeats 8000000 in
theorem try_4 (h : PW K C W M B Ck ws st now lv L w) (hC : C.Ok) (ha : Ap K W M B Ck p) (hp : Bl p (prc aX aY t) w) (s : Tm5) (hs : FitT5 s) (i : Nat) (hi : i < C.A) (hx : ws (2 * i + 1) = (tw s : Int)) (hax : aY = (i : Int)) (hst : 0 ≤ st ∧ st ≤ 1000000) :
    Calls Try.prog 38 #[.pointer (some ⟨p, 0, none⟩), .pointer (some ⟨W, 0, none⟩), .int .i64 4] w fun e w' => e = .returned (.tuple #[]) ∧ PW K C W M B Ck ws (st + 1) now lv L w' ∧ Bl p (prc aX aY { t with ty := s }) w' ∧ Fq M B p w w' := by
  have HCALL := Lib.hid (fun (W' : World) (hW' : PW K C W M B Ck ws st now lv L W') => show Calls Try.prog 58 #[.pointer (some ⟨W, 0, none⟩), .int .i64 (i : Int)] W' fun e w' => e = .returned (tc s) ∧ PW K C W M B Ck ws (st + 1) now lv L w' ∧ Fm M B W' w' from by
    have hc := terms_w hW' hC i hi (tw s) hx hst
    rw [tv_tw s hs] at hc
    exact hc)
  have c1 := hp.cell 3 _ rfl
  rw [hax] at c1
  have H := Lib.hid h
  have HP := Lib.hid hp
  have HA := Lib.hid ha
  have hl := hp.lt
  clear h hp hax hC hs hx hst ha
  unfold tc at HCALL
  go_enter Try.func38, Try.ntmps38
  go_wp2_with fail
  refine (HCALL.out _ H.out).mono ?_
  rintro e w1 ⟨rfl, hP1, hF1⟩
  have HP1 := Lib.hid hP1
  have hp1 := hF1.bl HP.out HA.out.nM HA.out.nB
  have HF1 := Lib.hid hF1
  have HB1 := Lib.hid hp1
  have d23 := hp1.cell 23 _ rfl
  have f23 := hp1.frz 23
  have d24 := hp1.cell 24 _ rfl
  have f24 := hp1.frz 24
  have d25 := hp1.cell 25 _ rfl
  have f25 := hp1.frz 25
  have d26 := hp1.cell 26 _ rfl
  have f26 := hp1.frz 26
  have d27 := hp1.cell 27 _ rfl
  have f27 := hp1.frz 27
  have hl1 := hp1.lt
  clear hP1 hF1 hp1
  go_wp2
  go_end0
  refine ⟨rfl, (((((HP1.out.pset HA.out 23 _).pset HA.out 24 _).pset HA.out 25 _).pset HA.out 26 _).pset HA.out 27 _), (((((HB1.out.set 23 _).set 24 _).set 25 _).set 26 _).set 27 _), ((((((Fq.of HF1.out).set 23 _).set 24 _).set 25 _).set 26 _).set 27 _)⟩
end
end Go.Proofs.Ytmjkhefgpobinaa

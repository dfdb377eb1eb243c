/-
  Texts of the machine of pairs, part 28.
-/
import Derived.Test.YtmjkhefgpobinaaM1
import Derived.Test.YtmjkhefgpobinaaM2
import Derived.Test.YtmjkhefgpobinaaM26
import Derived.Test.YtmjkhefgpobinaaM27
namespace Go.Proofs.Ytmjkhefgpobinaa
open Go.ChangeShapes Go.WideShapes Go.ChangeAt Go.RowKit
set_option maxRecDepth 100000 in
set_option maxHeartbeats 4000000 in
theorem rwordT_bad (k s g l f : Int) (w : World) (hb : ∀ j, j < 5 → -9223372036854775808 ≤ (tz k s g l f) j ∧ (tz k s g l f) j ≤ 9223372036854775807) (j : Nat) (hj : j < 5) (hv : ∀ i, i < j → 0 ≤ (tz k s g l f) i ∧ (tz k s g l f) i < 2 ^ (sht (i + 1) - sht i).toNat) (hx : ¬ (0 ≤ (tz k s g l f) j ∧ (tz k s g l f) j < 2 ^ (sht (j + 1) - sht j).toNat)) :
    Calls Try.prog 30 #[.agg #[.int .i64 k, .int .i64 s, .int .i64 g, .int .i64 l, .int .i64 f]] w fun e w' => e = .returned (.tuple #[.int .u64 0, .int .i64 5]) ∧ Below w.heap.size w w' := by
  have hR0 := row5_new (w.alloc (Obj.cells #[.int .i64 k, .int .i64 s, .int .i64 g, .int .i64 l, .int .i64 f] 44)) 3 4 1 16 16 24 wdt ⟨rfl, rfl, rfl, rfl, rfl⟩ (fun k hk => by match k, hk with | 0, _ | 1, _ | 2, _ | 3, _ | 4, _ => decide)
  have hR1 : Hid (RowI (((w.alloc (Obj.cells #[.int .i64 k, .int .i64 s, .int .i64 g, .int .i64 l, .int .i64 f] 44)).alloc (Obj.cells #[.int .i64 4, .int .i64 1, .int .i64 16, .int .i64 16, .int .i64 24] 3)).alloc (Obj.cells #[.int .i64 k, .int .i64 s, .int .i64 g, .int .i64 l, .int .i64 f] 3)) (some ⟨(w.alloc (Obj.cells #[.int .i64 k, .int .i64 s, .int .i64 g, .int .i64 l, .int .i64 f] 44)).heap.size, 0, none⟩) 5 wdt) := row_below hR0 (by go_grown)
  have hR2 := Lib.hid (row5_new ((w.alloc (Obj.cells #[.int .i64 k, .int .i64 s, .int .i64 g, .int .i64 l, .int .i64 f] 44)).alloc (Obj.cells #[.int .i64 4, .int .i64 1, .int .i64 16, .int .i64 16, .int .i64 24] 3)) 3 k s g l f (tz k s g l f) ⟨rfl, rfl, rfl, rfl, rfl⟩ hb)
  have HP := Lib.hid (show Calls Try.prog 57 #[.slice (some ⟨w.heap.size + 1, 0, none⟩) 5 5, .slice (some ⟨w.heap.size + 1 + 1, 0, none⟩) 5 5] (((w.alloc (Obj.cells #[.int .i64 k, .int .i64 s, .int .i64 g, .int .i64 l, .int .i64 f] 44)).alloc (Obj.cells #[.int .i64 4, .int .i64 1, .int .i64 16, .int .i64 16, .int .i64 24] 3)).alloc (Obj.cells #[.int .i64 k, .int .i64 s, .int .i64 g, .int .i64 l, .int .i64 f] 3)) fun e w' => e = .returned (.tuple #[.int .u64 0, .int .i64 5, .int .i64 j]) ∧ (((w.alloc (Obj.cells #[.int .i64 k, .int .i64 s, .int .i64 g, .int .i64 l, .int .i64 f] 44)).alloc (Obj.cells #[.int .i64 4, .int .i64 1, .int .i64 16, .int .i64 16, .int .i64 24] 3)).alloc (Obj.cells #[.int .i64 k, .int .i64 s, .int .i64 g, .int .i64 l, .int .i64 f] 3)) = w' from by
    have e1 := hR1.out
    have e2 := hR2.out
    simp only [World.size_alloc] at e1 e2
    have hR1 := Lib.hid e1
    have hR2 := Lib.hid e2
    exact rpack_bad sht_steps sht_wd _ _ 5 5 _ hR1.out hR2.out j hj hv hx)
  clear hR0 hR1 hR2 hb hv hx
  go_enter Try.func30, Try.ntmps30
  go_wp2_with fail
  refine HP.out.mono ?_
  rintro e w' ⟨rfl, rfl⟩
  go_wp2
  go_ret2
  exact ⟨rfl, by go_grown⟩
theorem first_bad {n : Nat} (P : Nat → Prop) (h : ¬ ∀ k, k < n → P k) : ∃ j, j < n ∧ (∀ i, i < j → P i) ∧ ¬ P j := by
  induction n with
  | zero => exact absurd (fun k hk => absurd hk (Nat.not_lt_zero k)) h
  | succ m ih =>
    by_cases hm : ∀ k, k < m → P k
    · refine ⟨m, Nat.lt_succ_self m, hm, fun hp => h fun k hk => ?_⟩
      rcases Nat.lt_succ_iff_lt_or_eq.1 hk with h1 | h1
      · exact hm k h1
      · rw [h1]; exact hp
    · obtain ⟨j, h1, h2, h3⟩ := ih hm
      exact ⟨j, by omega, h2, h3⟩
/-- Numbers that an int holds. -/
def WfS (s : Cs) : Prop := (-9223372036854775808 ≤ s.kind ∧ s.kind ≤ 9223372036854775807) ∧ (-9223372036854775808 ≤ s.gen ∧ s.gen ≤ 9223372036854775807) ∧ (-9223372036854775808 ≤ s.left ∧ s.left ≤ 9223372036854775807) ∧ (-9223372036854775808 ≤ s.fills ∧ s.fills ≤ 9223372036854775807)
def WfT (t : Tm5) : Prop := (-9223372036854775808 ≤ t.n ∧ t.n ≤ 9223372036854775807) ∧ (-9223372036854775808 ≤ t.s ∧ t.s ≤ 9223372036854775807) ∧ (-9223372036854775808 ≤ t.p ∧ t.p ≤ 9223372036854775807) ∧ (-9223372036854775808 ≤ t.l ∧ t.l ≤ 9223372036854775807) ∧ (-9223372036854775808 ≤ t.u ∧ t.u ≤ 9223372036854775807)
theorem stw_any (s : Cs) (hw : WfS s) : (FitS s ∧ ∀ w, Calls Try.prog 29 #[sc s] w fun e w' => e = .returned (.tuple #[.int .u64 (cw s : Int), .int .i64 0]) ∧ Below w.heap.size w w') ∨ (¬ FitS s ∧ ∀ w, Calls Try.prog 29 #[sc s] w fun e w' => e = .returned (.tuple #[.int .u64 0, .int .i64 5]) ∧ Below w.heap.size w w') := by
  obtain ⟨k, fl, g, l, f⟩ := s
  obtain ⟨⟨a0, a1⟩, ⟨b0, b1⟩, ⟨c0, c1⟩, ⟨d0, d1⟩⟩ := hw
  by_cases hk : k ≤ 8
  · have hb : ∀ j, j < 5 → -9223372036854775808 ≤ (zc ⟨k, fl, g, l, f⟩) j ∧ (zc ⟨k, fl, g, l, f⟩) j ≤ 9223372036854775807 := fun j hj => by
      match j, hj with
      | 0, _ => exact ⟨a0, a1⟩
      | 1, _ => show -9223372036854775808 ≤ (if fl = true then (1 : Int) else 0) ∧ (if fl = true then (1 : Int) else 0) ≤ 9223372036854775807; split <;> omega
      | 2, _ => exact ⟨b0, b1⟩
      | 3, _ => exact ⟨c0, c1⟩
      | 4, _ => exact ⟨d0, d1⟩
    by_cases hf : FitsC (zc ⟨k, fl, g, l, f⟩)
    · left
      refine ⟨⟨hk, hf⟩, fun w => ?_⟩
      cases fl with
      | true => exact rwordC_ok_true k g l f w hk hb hf
      | false => exact rwordC_ok_false k g l f w hk hb hf
    · right
      obtain ⟨j, hj, hv, hx⟩ := first_bad _ hf
      refine ⟨fun h => hf h.2, fun w => ?_⟩
      cases fl with
      | true => exact rwordC_bad_true k g l f w hk hb j hj hv hx
      | false => exact rwordC_bad_false k g l f w hk hb j hj hv hx
  · right
    exact ⟨fun h => hk h.1, fun w => rwordC_high k g l f fl w (by omega)⟩
theorem ttw_any (t : Tm5) (hw : WfT t) : (FitT5 t ∧ ∀ w, Calls Try.prog 30 #[tc t] w fun e w' => e = .returned (.tuple #[.int .u64 (tw t : Int), .int .i64 0]) ∧ Below w.heap.size w w') ∨ (¬ FitT5 t ∧ ∀ w, Calls Try.prog 30 #[tc t] w fun e w' => e = .returned (.tuple #[.int .u64 0, .int .i64 5]) ∧ Below w.heap.size w w') := by
  obtain ⟨n, s, p, l, u⟩ := t
  obtain ⟨⟨a0, a1⟩, ⟨b0, b1⟩, ⟨c0, c1⟩, ⟨d0, d1⟩, ⟨e0, e1⟩⟩ := hw
  have hb : ∀ j, j < 5 → -9223372036854775808 ≤ (tz n s p l u) j ∧ (tz n s p l u) j ≤ 9223372036854775807 := fun j hj => by
    match j, hj with
    | 0, _ => exact ⟨a0, a1⟩
    | 1, _ => exact ⟨b0, b1⟩
    | 2, _ => exact ⟨c0, c1⟩
    | 3, _ => exact ⟨d0, d1⟩
    | 4, _ => exact ⟨e0, e1⟩
  by_cases hf : FitsT (tz n s p l u)
  · left
    exact ⟨hf, fun w => rwordT_ok n s p l u w hb hf⟩
  · right
    obtain ⟨j, hj, hv, hx⟩ := first_bad _ hf
    exact ⟨hf, fun w => rwordT_bad n s p l u w hb j hj hv hx⟩
theorem rloose_any (k : Int) (w : World) : Calls Try.prog 31 #[.int .i64 k] w fun e w' => e = .returned (.bool (decide (k = 1 ∨ k = 2))) ∧ Below w.heap.size w w' := by
  by_cases h1 : k = 1
  · subst h1; exact rlooseL1 w
  · by_cases h2 : k = 2
    · subst h2; exact rlooseL2 w
    · rw [show decide (k = 1 ∨ k = 2) = false from decide_eq_false (by omega)]
      by_cases h3 : k = 3
      · subst h3; exact rlooseH3 w
      · by_cases h4 : k = 4
        · subst h4; exact rlooseH4 w
        · by_cases h5 : k < 5
          · exact rlooseN k w h5 h1 h2 h3 h4
          · by_cases h8 : k ≤ 8
            · exact rlooseO k w (by omega) h8
            · exact rlooseX k w (by omega)
/-- Terms that may be asked. -/
structure Chk (N : Int) (t : Tm5) (q : Int) : Prop where
  n : 0 ≤ t.n ∧ t.n < N
  s : t.s = 0 ∨ t.s = 1
  qq : 1 ≤ q ∧ q ≤ 9999
  p : 1 ≤ t.p ∧ t.p ≤ 9999
  l : 1 ≤ t.l ∧ t.l ≤ q
  u : 1 ≤ t.u ∧ t.u ≤ 1000000
set_option maxRecDepth 100000 in
set_option maxHeartbeats 16000000 in
theorem chk_ok0 (p c n b r f g tn tp tl tu q : Int) (w : World) (hn : 0 ≤ tn ∧ tn < n) (hq : 1 ≤ q ∧ q ≤ 9999) (hp : 1 ≤ tp ∧ tp ≤ 9999) (hl : 1 ≤ tl ∧ tl ≤ q) (hu : 1 ≤ tu ∧ tu ≤ 1000000) :
    Calls Try.prog 32 #[.agg #[.int .i64 p, .int .i64 c, .int .i64 n, .int .i64 b, .int .i64 r, .int .i64 f, .int .i64 g], .agg #[.int .i64 tn, .int .i64 0, .int .i64 tp, .int .i64 tl, .int .i64 tu], .int .i64 q, .int .i64 0] w fun e w' => e = .returned (.int .i64 0) ∧ Below w.heap.size w w' := by
  have dn0 : decide (tn < 0) = false := decide_eq_false (by omega)
  have dn1 : decide (n ≤ tn) = false := decide_eq_false (by omega)
  have dq0 : decide (q < 1) = false := decide_eq_false (by omega)
  have dq1 : decide (9999 < q) = false := decide_eq_false (by omega)
  have dp0 : decide (tp < 1) = false := decide_eq_false (by omega)
  have dp1 : decide (9999 < tp) = false := decide_eq_false (by omega)
  have dl0 : decide (tl < 1) = false := decide_eq_false (by omega)
  have dl1 : decide (q < tl) = false := decide_eq_false (by omega)
  have du0 : decide (tu ≤ 0) = false := decide_eq_false (by omega)
  have du1 : decide (1000000 < tu) = false := decide_eq_false (by omega)
  clear hn hq hp hl hu
  go_enter Try.func32, Try.ntmps32
  go_wp2
  go_ret
  exact ⟨rfl, by go_grown⟩
set_option maxRecDepth 100000 in
set_option maxHeartbeats 16000000 in
theorem chk_ok1 (p c n b r f g tn tp tl tu q : Int) (w : World) (hn : 0 ≤ tn ∧ tn < n) (hq : 1 ≤ q ∧ q ≤ 9999) (hp : 1 ≤ tp ∧ tp ≤ 9999) (hl : 1 ≤ tl ∧ tl ≤ q) (hu : 1 ≤ tu ∧ tu ≤ 1000000) :
    Calls Try.prog 32 #[.agg #[.int .i64 p, .int .i64 c, .int .i64 n, .int .i64 b, .int .i64 r, .int .i64 f, .int .i64 g], .agg #[.int .i64 tn, .int .i64 1, .int .i64 tp, .int .i64 tl, .int .i64 tu], .int .i64 q, .int .i64 0] w fun e w' => e = .returned (.int .i64 0) ∧ Below w.heap.size w w' := by
  have dn0 : decide (tn < 0) = false := decide_eq_false (by omega)
  have dn1 : decide (n ≤ tn) = false := decide_eq_false (by omega)
  have dq0 : decide (q < 1) = false := decide_eq_false (by omega)
  have dq1 : decide (9999 < q) = false := decide_eq_false (by omega)
  have dp0 : decide (tp < 1) = false := decide_eq_false (by omega)
  have dp1 : decide (9999 < tp) = false := decide_eq_false (by omega)
  have dl0 : decide (tl < 1) = false := decide_eq_false (by omega)
  have dl1 : decide (q < tl) = false := decide_eq_false (by omega)
  have du0 : decide (tu ≤ 0) = false := decide_eq_false (by omega)
  have du1 : decide (1000000 < tu) = false := decide_eq_false (by omega)
  clear hn hq hp hl hu
  go_enter Try.func32, Try.ntmps32
  go_wp2
  go_ret
  exact ⟨rfl, by go_grown⟩
set_option maxRecDepth 100000 in
set_option maxHeartbeats 16000000 in
theorem chk_no_dn0 (p c n b r f g tn ts tp tl tu q : Int) (w : World) (hx : tn < 0) :
    Calls Try.prog 32 #[.agg #[.int .i64 p, .int .i64 c, .int .i64 n, .int .i64 b, .int .i64 r, .int .i64 f, .int .i64 g], .agg #[.int .i64 tn, .int .i64 ts, .int .i64 tp, .int .i64 tl, .int .i64 tu], .int .i64 q, .int .i64 0] w fun e w' => e = .returned (.int .i64 22) ∧ Below w.heap.size w w' := by
  have dn0 : decide (tn < 0) = true := decide_eq_true hx
  clear hx
  go_enter Try.func32, Try.ntmps32
  go_wp2
  go_ret
  exact ⟨rfl, by go_grown⟩
set_option maxRecDepth 100000 in
set_option maxHeartbeats 16000000 in
theorem chk_no_dn1 (p c n b r f g tn ts tp tl tu q : Int) (w : World) (hdn0 : ¬ (tn < 0)) (hx : n ≤ tn) :
    Calls Try.prog 32 #[.agg #[.int .i64 p, .int .i64 c, .int .i64 n, .int .i64 b, .int .i64 r, .int .i64 f, .int .i64 g], .agg #[.int .i64 tn, .int .i64 ts, .int .i64 tp, .int .i64 tl, .int .i64 tu], .int .i64 q, .int .i64 0] w fun e w' => e = .returned (.int .i64 22) ∧ Below w.heap.size w w' := by
  have dn0 : decide (tn < 0) = false := decide_eq_false hdn0
  have dn1 : decide (n ≤ tn) = true := decide_eq_true hx
  clear hdn0 hx
  go_enter Try.func32, Try.ntmps32
  go_wp2
  go_ret
  exact ⟨rfl, by go_grown⟩
set_option maxRecDepth 100000 in
set_option maxHeartbeats 16000000 in
theorem chk_no_S (p c n b r f g tn ts tp tl tu q : Int) (w : World) (hdn0 : ¬ (tn < 0)) (hdn1 : ¬ (n ≤ tn)) (hs : ts ≠ 0 ∧ ts ≠ 1) :
    Calls Try.prog 32 #[.agg #[.int .i64 p, .int .i64 c, .int .i64 n, .int .i64 b, .int .i64 r, .int .i64 f, .int .i64 g], .agg #[.int .i64 tn, .int .i64 ts, .int .i64 tp, .int .i64 tl, .int .i64 tu], .int .i64 q, .int .i64 0] w fun e w' => e = .returned (.int .i64 1) ∧ Below w.heap.size w w' := by
  have dn0 : decide (tn < 0) = false := decide_eq_false hdn0
  have dn1 : decide (n ≤ tn) = false := decide_eq_false hdn1
  have s0 : (ts == 0) = false := by simpa using hs.1
  have s1 : (ts == 1) = false := by simpa using hs.2
  have s2 : (ts != 0) = true := by simpa using hs.1
  have s3 : (ts != 1) = true := by simpa using hs.2
  clear hdn0 hdn1 hs
  go_enter Try.func32, Try.ntmps32
  go_wp2
  go_ret
  exact ⟨rfl, by go_grown⟩
set_option maxRecDepth 100000 in
set_option maxHeartbeats 16000000 in
theorem chk_no_dq00 (p c n b r f g tn tp tl tu q : Int) (w : World) (hdn0 : ¬ (tn < 0)) (hdn1 : ¬ (n ≤ tn)) (hx : q < 1) :
    Calls Try.prog 32 #[.agg #[.int .i64 p, .int .i64 c, .int .i64 n, .int .i64 b, .int .i64 r, .int .i64 f, .int .i64 g], .agg #[.int .i64 tn, .int .i64 0, .int .i64 tp, .int .i64 tl, .int .i64 tu], .int .i64 q, .int .i64 0] w fun e w' => e = .returned (.int .i64 23) ∧ Below w.heap.size w w' := by
  have dn0 : decide (tn < 0) = false := decide_eq_false hdn0
  have dn1 : decide (n ≤ tn) = false := decide_eq_false hdn1
  have dq0 : decide (q < 1) = true := decide_eq_true hx
  clear hdn0 hdn1 hx
  go_enter Try.func32, Try.ntmps32
  go_wp2
  go_ret
  exact ⟨rfl, by go_grown⟩
set_option maxRecDepth 100000 in
set_option maxHeartbeats 16000000 in
theorem chk_no_dq01 (p c n b r f g tn tp tl tu q : Int) (w : World) (hdn0 : ¬ (tn < 0)) (hdn1 : ¬ (n ≤ tn)) (hx : q < 1) :
    Calls Try.prog 32 #[.agg #[.int .i64 p, .int .i64 c, .int .i64 n, .int .i64 b, .int .i64 r, .int .i64 f, .int .i64 g], .agg #[.int .i64 tn, .int .i64 1, .int .i64 tp, .int .i64 tl, .int .i64 tu], .int .i64 q, .int .i64 0] w fun e w' => e = .returned (.int .i64 23) ∧ Below w.heap.size w w' := by
  have dn0 : decide (tn < 0) = false := decide_eq_false hdn0
  have dn1 : decide (n ≤ tn) = false := decide_eq_false hdn1
  have dq0 : decide (q < 1) = true := decide_eq_true hx
  clear hdn0 hdn1 hx
  go_enter Try.func32, Try.ntmps32
  go_wp2
  go_ret
  exact ⟨rfl, by go_grown⟩
set_option maxRecDepth 100000 in
set_option maxHeartbeats 16000000 in
theorem chk_no_dq10 (p c n b r f g tn tp tl tu q : Int) (w : World) (hdn0 : ¬ (tn < 0)) (hdn1 : ¬ (n ≤ tn)) (hdq0 : ¬ (q < 1)) (hx : 9999 < q) :
    Calls Try.prog 32 #[.agg #[.int .i64 p, .int .i64 c, .int .i64 n, .int .i64 b, .int .i64 r, .int .i64 f, .int .i64 g], .agg #[.int .i64 tn, .int .i64 0, .int .i64 tp, .int .i64 tl, .int .i64 tu], .int .i64 q, .int .i64 0] w fun e w' => e = .returned (.int .i64 23) ∧ Below w.heap.size w w' := by
  have dn0 : decide (tn < 0) = false := decide_eq_false hdn0
  have dn1 : decide (n ≤ tn) = false := decide_eq_false hdn1
  have dq0 : decide (q < 1) = false := decide_eq_false hdq0
  have dq1 : decide (9999 < q) = true := decide_eq_true hx
  clear hdn0 hdn1 hdq0 hx
  go_enter Try.func32, Try.ntmps32
  go_wp2
  go_ret
  exact ⟨rfl, by go_grown⟩
set_option maxRecDepth 100000 in
set_option maxHeartbeats 16000000 in
theorem chk_no_dq11 (p c n b r f g tn tp tl tu q : Int) (w : World) (hdn0 : ¬ (tn < 0)) (hdn1 : ¬ (n ≤ tn)) (hdq0 : ¬ (q < 1)) (hx : 9999 < q) :
    Calls Try.prog 32 #[.agg #[.int .i64 p, .int .i64 c, .int .i64 n, .int .i64 b, .int .i64 r, .int .i64 f, .int .i64 g], .agg #[.int .i64 tn, .int .i64 1, .int .i64 tp, .int .i64 tl, .int .i64 tu], .int .i64 q, .int .i64 0] w fun e w' => e = .returned (.int .i64 23) ∧ Below w.heap.size w w' := by
  have dn0 : decide (tn < 0) = false := decide_eq_false hdn0
  have dn1 : decide (n ≤ tn) = false := decide_eq_false hdn1
  have dq0 : decide (q < 1) = false := decide_eq_false hdq0
  have dq1 : decide (9999 < q) = true := decide_eq_true hx
  clear hdn0 hdn1 hdq0 hx
  go_enter Try.func32, Try.ntmps32
  go_wp2
  go_ret
  exact ⟨rfl, by go_grown⟩
set_option maxRecDepth 100000 in
set_option maxHeartbeats 16000000 in
theorem chk_no_dp00 (p c n b r f g tn tp tl tu q : Int) (w : World) (hdn0 : ¬ (tn < 0)) (hdn1 : ¬ (n ≤ tn)) (hdq0 : ¬ (q < 1)) (hdq1 : ¬ (9999 < q)) (hx : tp < 1) :
    Calls Try.prog 32 #[.agg #[.int .i64 p, .int .i64 c, .int .i64 n, .int .i64 b, .int .i64 r, .int .i64 f, .int .i64 g], .agg #[.int .i64 tn, .int .i64 0, .int .i64 tp, .int .i64 tl, .int .i64 tu], .int .i64 q, .int .i64 0] w fun e w' => e = .returned (.int .i64 24) ∧ Below w.heap.size w w' := by
  have dn0 : decide (tn < 0) = false := decide_eq_false hdn0
  have dn1 : decide (n ≤ tn) = false := decide_eq_false hdn1
  have dq0 : decide (q < 1) = false := decide_eq_false hdq0
  have dq1 : decide (9999 < q) = false := decide_eq_false hdq1
  have dp0 : decide (tp < 1) = true := decide_eq_true hx
  clear hdn0 hdn1 hdq0 hdq1 hx
  go_enter Try.func32, Try.ntmps32
  go_wp2
  go_ret
  exact ⟨rfl, by go_grown⟩
set_option maxRecDepth 100000 in
set_option maxHeartbeats 16000000 in
theorem chk_no_dp01 (p c n b r f g tn tp tl tu q : Int) (w : World) (hdn0 : ¬ (tn < 0)) (hdn1 : ¬ (n ≤ tn)) (hdq0 : ¬ (q < 1)) (hdq1 : ¬ (9999 < q)) (hx : tp < 1) :
    Calls Try.prog 32 #[.agg #[.int .i64 p, .int .i64 c, .int .i64 n, .int .i64 b, .int .i64 r, .int .i64 f, .int .i64 g], .agg #[.int .i64 tn, .int .i64 1, .int .i64 tp, .int .i64 tl, .int .i64 tu], .int .i64 q, .int .i64 0] w fun e w' => e = .returned (.int .i64 24) ∧ Below w.heap.size w w' := by
  have dn0 : decide (tn < 0) = false := decide_eq_false hdn0
  have dn1 : decide (n ≤ tn) = false := decide_eq_false hdn1
  have dq0 : decide (q < 1) = false := decide_eq_false hdq0
  have dq1 : decide (9999 < q) = false := decide_eq_false hdq1
  have dp0 : decide (tp < 1) = true := decide_eq_true hx
  clear hdn0 hdn1 hdq0 hdq1 hx
  go_enter Try.func32, Try.ntmps32
  go_wp2
  go_ret
  exact ⟨rfl, by go_grown⟩
set_option maxRecDepth 100000 in
set_option maxHeartbeats 16000000 in
theorem chk_no_dp10 (p c n b r f g tn tp tl tu q : Int) (w : World) (hdn0 : ¬ (tn < 0)) (hdn1 : ¬ (n ≤ tn)) (hdq0 : ¬ (q < 1)) (hdq1 : ¬ (9999 < q)) (hdp0 : ¬ (tp < 1)) (hx : 9999 < tp) :
    Calls Try.prog 32 #[.agg #[.int .i64 p, .int .i64 c, .int .i64 n, .int .i64 b, .int .i64 r, .int .i64 f, .int .i64 g], .agg #[.int .i64 tn, .int .i64 0, .int .i64 tp, .int .i64 tl, .int .i64 tu], .int .i64 q, .int .i64 0] w fun e w' => e = .returned (.int .i64 24) ∧ Below w.heap.size w w' := by
  have dn0 : decide (tn < 0) = false := decide_eq_false hdn0
  have dn1 : decide (n ≤ tn) = false := decide_eq_false hdn1
  have dq0 : decide (q < 1) = false := decide_eq_false hdq0
  have dq1 : decide (9999 < q) = false := decide_eq_false hdq1
  have dp0 : decide (tp < 1) = false := decide_eq_false hdp0
  have dp1 : decide (9999 < tp) = true := decide_eq_true hx
  clear hdn0 hdn1 hdq0 hdq1 hdp0 hx
  go_enter Try.func32, Try.ntmps32
  go_wp2
  go_ret
  exact ⟨rfl, by go_grown⟩
set_option maxRecDepth 100000 in
set_option maxHeartbeats 16000000 in
theorem chk_no_dp11 (p c n b r f g tn tp tl tu q : Int) (w : World) (hdn0 : ¬ (tn < 0)) (hdn1 : ¬ (n ≤ tn)) (hdq0 : ¬ (q < 1)) (hdq1 : ¬ (9999 < q)) (hdp0 : ¬ (tp < 1)) (hx : 9999 < tp) :
    Calls Try.prog 32 #[.agg #[.int .i64 p, .int .i64 c, .int .i64 n, .int .i64 b, .int .i64 r, .int .i64 f, .int .i64 g], .agg #[.int .i64 tn, .int .i64 1, .int .i64 tp, .int .i64 tl, .int .i64 tu], .int .i64 q, .int .i64 0] w fun e w' => e = .returned (.int .i64 24) ∧ Below w.heap.size w w' := by
  have dn0 : decide (tn < 0) = false := decide_eq_false hdn0
  have dn1 : decide (n ≤ tn) = false := decide_eq_false hdn1
  have dq0 : decide (q < 1) = false := decide_eq_false hdq0
  have dq1 : decide (9999 < q) = false := decide_eq_false hdq1
  have dp0 : decide (tp < 1) = false := decide_eq_false hdp0
  have dp1 : decide (9999 < tp) = true := decide_eq_true hx
  clear hdn0 hdn1 hdq0 hdq1 hdp0 hx
  go_enter Try.func32, Try.ntmps32
  go_wp2
  go_ret
  exact ⟨rfl, by go_grown⟩
set_option maxRecDepth 100000 in
set_option maxHeartbeats 16000000 in
theorem chk_no_dl00 (p c n b r f g tn tp tl tu q : Int) (w : World) (hdn0 : ¬ (tn < 0)) (hdn1 : ¬ (n ≤ tn)) (hdq0 : ¬ (q < 1)) (hdq1 : ¬ (9999 < q)) (hdp0 : ¬ (tp < 1)) (hdp1 : ¬ (9999 < tp)) (hx : tl < 1) :
    Calls Try.prog 32 #[.agg #[.int .i64 p, .int .i64 c, .int .i64 n, .int .i64 b, .int .i64 r, .int .i64 f, .int .i64 g], .agg #[.int .i64 tn, .int .i64 0, .int .i64 tp, .int .i64 tl, .int .i64 tu], .int .i64 q, .int .i64 0] w fun e w' => e = .returned (.int .i64 25) ∧ Below w.heap.size w w' := by
  have dn0 : decide (tn < 0) = false := decide_eq_false hdn0
  have dn1 : decide (n ≤ tn) = false := decide_eq_false hdn1
  have dq0 : decide (q < 1) = false := decide_eq_false hdq0
  have dq1 : decide (9999 < q) = false := decide_eq_false hdq1
  have dp0 : decide (tp < 1) = false := decide_eq_false hdp0
  have dp1 : decide (9999 < tp) = false := decide_eq_false hdp1
  have dl0 : decide (tl < 1) = true := decide_eq_true hx
  clear hdn0 hdn1 hdq0 hdq1 hdp0 hdp1 hx
  go_enter Try.func32, Try.ntmps32
  go_wp2
  go_ret
  exact ⟨rfl, by go_grown⟩
set_option maxRecDepth 100000 in
set_option maxHeartbeats 16000000 in
theorem chk_no_dl01 (p c n b r f g tn tp tl tu q : Int) (w : World) (hdn0 : ¬ (tn < 0)) (hdn1 : ¬ (n ≤ tn)) (hdq0 : ¬ (q < 1)) (hdq1 : ¬ (9999 < q)) (hdp0 : ¬ (tp < 1)) (hdp1 : ¬ (9999 < tp)) (hx : tl < 1) :
    Calls Try.prog 32 #[.agg #[.int .i64 p, .int .i64 c, .int .i64 n, .int .i64 b, .int .i64 r, .int .i64 f, .int .i64 g], .agg #[.int .i64 tn, .int .i64 1, .int .i64 tp, .int .i64 tl, .int .i64 tu], .int .i64 q, .int .i64 0] w fun e w' => e = .returned (.int .i64 25) ∧ Below w.heap.size w w' := by
  have dn0 : decide (tn < 0) = false := decide_eq_false hdn0
  have dn1 : decide (n ≤ tn) = false := decide_eq_false hdn1
  have dq0 : decide (q < 1) = false := decide_eq_false hdq0
  have dq1 : decide (9999 < q) = false := decide_eq_false hdq1
  have dp0 : decide (tp < 1) = false := decide_eq_false hdp0
  have dp1 : decide (9999 < tp) = false := decide_eq_false hdp1
  have dl0 : decide (tl < 1) = true := decide_eq_true hx
  clear hdn0 hdn1 hdq0 hdq1 hdp0 hdp1 hx
  go_enter Try.func32, Try.ntmps32
  go_wp2
  go_ret
  exact ⟨rfl, by go_grown⟩
set_option maxRecDepth 100000 in
set_option maxHeartbeats 16000000 in
theorem chk_no_dl10 (p c n b r f g tn tp tl tu q : Int) (w : World) (hdn0 : ¬ (tn < 0)) (hdn1 : ¬ (n ≤ tn)) (hdq0 : ¬ (q < 1)) (hdq1 : ¬ (9999 < q)) (hdp0 : ¬ (tp < 1)) (hdp1 : ¬ (9999 < tp)) (hdl0 : ¬ (tl < 1)) (hx : q < tl) :
    Calls Try.prog 32 #[.agg #[.int .i64 p, .int .i64 c, .int .i64 n, .int .i64 b, .int .i64 r, .int .i64 f, .int .i64 g], .agg #[.int .i64 tn, .int .i64 0, .int .i64 tp, .int .i64 tl, .int .i64 tu], .int .i64 q, .int .i64 0] w fun e w' => e = .returned (.int .i64 25) ∧ Below w.heap.size w w' := by
  have dn0 : decide (tn < 0) = false := decide_eq_false hdn0
  have dn1 : decide (n ≤ tn) = false := decide_eq_false hdn1
  have dq0 : decide (q < 1) = false := decide_eq_false hdq0
  have dq1 : decide (9999 < q) = false := decide_eq_false hdq1
  have dp0 : decide (tp < 1) = false := decide_eq_false hdp0
  have dp1 : decide (9999 < tp) = false := decide_eq_false hdp1
  have dl0 : decide (tl < 1) = false := decide_eq_false hdl0
  have dl1 : decide (q < tl) = true := decide_eq_true hx
  clear hdn0 hdn1 hdq0 hdq1 hdp0 hdp1 hdl0 hx
  go_enter Try.func32, Try.ntmps32
  go_wp2
  go_ret
  exact ⟨rfl, by go_grown⟩
set_option maxRecDepth 100000 in
set_option maxHeartbeats 16000000 in
theorem chk_no_dl11 (p c n b r f g tn tp tl tu q : Int) (w : World) (hdn0 : ¬ (tn < 0)) (hdn1 : ¬ (n ≤ tn)) (hdq0 : ¬ (q < 1)) (hdq1 : ¬ (9999 < q)) (hdp0 : ¬ (tp < 1)) (hdp1 : ¬ (9999 < tp)) (hdl0 : ¬ (tl < 1)) (hx : q < tl) :
    Calls Try.prog 32 #[.agg #[.int .i64 p, .int .i64 c, .int .i64 n, .int .i64 b, .int .i64 r, .int .i64 f, .int .i64 g], .agg #[.int .i64 tn, .int .i64 1, .int .i64 tp, .int .i64 tl, .int .i64 tu], .int .i64 q, .int .i64 0] w fun e w' => e = .returned (.int .i64 25) ∧ Below w.heap.size w w' := by
  have dn0 : decide (tn < 0) = false := decide_eq_false hdn0
  have dn1 : decide (n ≤ tn) = false := decide_eq_false hdn1
  have dq0 : decide (q < 1) = false := decide_eq_false hdq0
  have dq1 : decide (9999 < q) = false := decide_eq_false hdq1
  have dp0 : decide (tp < 1) = false := decide_eq_false hdp0
  have dp1 : decide (9999 < tp) = false := decide_eq_false hdp1
  have dl0 : decide (tl < 1) = false := decide_eq_false hdl0
  have dl1 : decide (q < tl) = true := decide_eq_true hx
  clear hdn0 hdn1 hdq0 hdq1 hdp0 hdp1 hdl0 hx
  go_enter Try.func32, Try.ntmps32
  go_wp2
  go_ret
  exact ⟨rfl, by go_grown⟩
set_option maxRecDepth 100000 in
set_option maxHeartbeats 16000000 in
theorem chk_no_du00 (p c n b r f g tn tp tl tu q : Int) (w : World) (hdn0 : ¬ (tn < 0)) (hdn1 : ¬ (n ≤ tn)) (hdq0 : ¬ (q < 1)) (hdq1 : ¬ (9999 < q)) (hdp0 : ¬ (tp < 1)) (hdp1 : ¬ (9999 < tp)) (hdl0 : ¬ (tl < 1)) (hdl1 : ¬ (q < tl)) (hx : tu ≤ 0) :
    Calls Try.prog 32 #[.agg #[.int .i64 p, .int .i64 c, .int .i64 n, .int .i64 b, .int .i64 r, .int .i64 f, .int .i64 g], .agg #[.int .i64 tn, .int .i64 0, .int .i64 tp, .int .i64 tl, .int .i64 tu], .int .i64 q, .int .i64 0] w fun e w' => e = .returned (.int .i64 26) ∧ Below w.heap.size w w' := by
  have dn0 : decide (tn < 0) = false := decide_eq_false hdn0
  have dn1 : decide (n ≤ tn) = false := decide_eq_false hdn1
  have dq0 : decide (q < 1) = false := decide_eq_false hdq0
  have dq1 : decide (9999 < q) = false := decide_eq_false hdq1
  have dp0 : decide (tp < 1) = false := decide_eq_false hdp0
  have dp1 : decide (9999 < tp) = false := decide_eq_false hdp1
  have dl0 : decide (tl < 1) = false := decide_eq_false hdl0
  have dl1 : decide (q < tl) = false := decide_eq_false hdl1
  have du0 : decide (tu ≤ 0) = true := decide_eq_true hx
  clear hdn0 hdn1 hdq0 hdq1 hdp0 hdp1 hdl0 hdl1 hx
  go_enter Try.func32, Try.ntmps32
  go_wp2
  go_ret
  exact ⟨rfl, by go_grown⟩
set_option maxRecDepth 100000 in
set_option maxHeartbeats 16000000 in
theorem chk_no_du01 (p c n b r f g tn tp tl tu q : Int) (w : World) (hdn0 : ¬ (tn < 0)) (hdn1 : ¬ (n ≤ tn)) (hdq0 : ¬ (q < 1)) (hdq1 : ¬ (9999 < q)) (hdp0 : ¬ (tp < 1)) (hdp1 : ¬ (9999 < tp)) (hdl0 : ¬ (tl < 1)) (hdl1 : ¬ (q < tl)) (hx : tu ≤ 0) :
    Calls Try.prog 32 #[.agg #[.int .i64 p, .int .i64 c, .int .i64 n, .int .i64 b, .int .i64 r, .int .i64 f, .int .i64 g], .agg #[.int .i64 tn, .int .i64 1, .int .i64 tp, .int .i64 tl, .int .i64 tu], .int .i64 q, .int .i64 0] w fun e w' => e = .returned (.int .i64 26) ∧ Below w.heap.size w w' := by
  have dn0 : decide (tn < 0) = false := decide_eq_false hdn0
  have dn1 : decide (n ≤ tn) = false := decide_eq_false hdn1
  have dq0 : decide (q < 1) = false := decide_eq_false hdq0
  have dq1 : decide (9999 < q) = false := decide_eq_false hdq1
  have dp0 : decide (tp < 1) = false := decide_eq_false hdp0
  have dp1 : decide (9999 < tp) = false := decide_eq_false hdp1
  have dl0 : decide (tl < 1) = false := decide_eq_false hdl0
  have dl1 : decide (q < tl) = false := decide_eq_false hdl1
  have du0 : decide (tu ≤ 0) = true := decide_eq_true hx
  clear hdn0 hdn1 hdq0 hdq1 hdp0 hdp1 hdl0 hdl1 hx
  go_enter Try.func32, Try.ntmps32
  go_wp2
  go_ret
  exact ⟨rfl, by go_grown⟩
set_option maxRecDepth 100000 in
set_option maxHeartbeats 16000000 in
theorem chk_no_du10 (p c n b r f g tn tp tl tu q : Int) (w : World) (hdn0 : ¬ (tn < 0)) (hdn1 : ¬ (n ≤ tn)) (hdq0 : ¬ (q < 1)) (hdq1 : ¬ (9999 < q)) (hdp0 : ¬ (tp < 1)) (hdp1 : ¬ (9999 < tp)) (hdl0 : ¬ (tl < 1)) (hdl1 : ¬ (q < tl)) (hdu0 : ¬ (tu ≤ 0)) (hx : 1000000 < tu) :
    Calls Try.prog 32 #[.agg #[.int .i64 p, .int .i64 c, .int .i64 n, .int .i64 b, .int .i64 r, .int .i64 f, .int .i64 g], .agg #[.int .i64 tn, .int .i64 0, .int .i64 tp, .int .i64 tl, .int .i64 tu], .int .i64 q, .int .i64 0] w fun e w' => e = .returned (.int .i64 26) ∧ Below w.heap.size w w' := by
  have dn0 : decide (tn < 0) = false := decide_eq_false hdn0
  have dn1 : decide (n ≤ tn) = false := decide_eq_false hdn1
  have dq0 : decide (q < 1) = false := decide_eq_false hdq0
  have dq1 : decide (9999 < q) = false := decide_eq_false hdq1
  have dp0 : decide (tp < 1) = false := decide_eq_false hdp0
  have dp1 : decide (9999 < tp) = false := decide_eq_false hdp1
  have dl0 : decide (tl < 1) = false := decide_eq_false hdl0
  have dl1 : decide (q < tl) = false := decide_eq_false hdl1
  have du0 : decide (tu ≤ 0) = false := decide_eq_false hdu0
  have du1 : decide (1000000 < tu) = true := decide_eq_true hx
  clear hdn0 hdn1 hdq0 hdq1 hdp0 hdp1 hdl0 hdl1 hdu0 hx
  go_enter Try.func32, Try.ntmps32
  go_wp2
  go_ret
  exact ⟨rfl, by go_grown⟩
set_option maxRecDepth 100000 in
set_option maxHeartbeats 16000000 in
theorem chk_no_du11 (p c n b r f g tn tp tl tu q : Int) (w : World) (hdn0 : ¬ (tn < 0)) (hdn1 : ¬ (n ≤ tn)) (hdq0 : ¬ (q < 1)) (hdq1 : ¬ (9999 < q)) (hdp0 : ¬ (tp < 1)) (hdp1 : ¬ (9999 < tp)) (hdl0 : ¬ (tl < 1)) (hdl1 : ¬ (q < tl)) (hdu0 : ¬ (tu ≤ 0)) (hx : 1000000 < tu) :
    Calls Try.prog 32 #[.agg #[.int .i64 p, .int .i64 c, .int .i64 n, .int .i64 b, .int .i64 r, .int .i64 f, .int .i64 g], .agg #[.int .i64 tn, .int .i64 1, .int .i64 tp, .int .i64 tl, .int .i64 tu], .int .i64 q, .int .i64 0] w fun e w' => e = .returned (.int .i64 26) ∧ Below w.heap.size w w' := by
  have dn0 : decide (tn < 0) = false := decide_eq_false hdn0
  have dn1 : decide (n ≤ tn) = false := decide_eq_false hdn1
  have dq0 : decide (q < 1) = false := decide_eq_false hdq0
  have dq1 : decide (9999 < q) = false := decide_eq_false hdq1
  have dp0 : decide (tp < 1) = false := decide_eq_false hdp0
  have dp1 : decide (9999 < tp) = false := decide_eq_false hdp1
  have dl0 : decide (tl < 1) = false := decide_eq_false hdl0
  have dl1 : decide (q < tl) = false := decide_eq_false hdl1
  have du0 : decide (tu ≤ 0) = false := decide_eq_false hdu0
  have du1 : decide (1000000 < tu) = true := decide_eq_true hx
  clear hdn0 hdn1 hdq0 hdq1 hdp0 hdp1 hdl0 hdl1 hdu0 hx
  go_enter Try.func32, Try.ntmps32
  go_wp2
  go_ret
  exact ⟨rfl, by go_grown⟩
theorem chk_any (p c n b r f g : Int) (t : Tm5) (q : Int) : (Chk n t q ∧ ∀ w, Calls Try.prog 32 #[.agg #[.int .i64 p, .int .i64 c, .int .i64 n, .int .i64 b, .int .i64 r, .int .i64 f, .int .i64 g], tc t, .int .i64 q, .int .i64 0] w fun e w' => e = .returned (.int .i64 0) ∧ Below w.heap.size w w') ∨ (¬ Chk n t q ∧ ∃ v : Int, (v == 0) = false ∧ ∀ w, Calls Try.prog 32 #[.agg #[.int .i64 p, .int .i64 c, .int .i64 n, .int .i64 b, .int .i64 r, .int .i64 f, .int .i64 g], tc t, .int .i64 q, .int .i64 0] w fun e w' => e = .returned (.int .i64 v) ∧ Below w.heap.size w w') := by
  obtain ⟨tn, ts, tp, tl, tu⟩ := t
  by_cases xdn0 : tn < 0
  · right
    exact ⟨fun h => by have := h.n; (try simp only at this); omega, 22, by decide, fun w => chk_no_dn0 p c n b r f g tn ts tp tl tu q w xdn0⟩
  · skip
    by_cases xdn1 : n ≤ tn
    · right
      exact ⟨fun h => by have := h.n; (try simp only at this); omega, 22, by decide, fun w => chk_no_dn1 p c n b r f g tn ts tp tl tu q w xdn0 xdn1⟩
    · skip
      by_cases xs : ts ≠ 0 ∧ ts ≠ 1
      · right
        exact ⟨fun h => by have := h.s; (try simp only at this); omega, 1, by decide, fun w => chk_no_S p c n b r f g tn ts tp tl tu q w xdn0 xdn1 xs⟩
      · skip
        have hs : ts = 0 ∨ ts = 1 := by omega
        rcases hs with rfl | rfl
        · skip
          by_cases xdq0 : q < 1
          · right
            exact ⟨fun h => by have := h.qq; (try simp only at this); omega, 23, by decide, fun w => chk_no_dq00 p c n b r f g tn tp tl tu q w xdn0 xdn1 xdq0⟩
          · skip
            by_cases xdq1 : 9999 < q
            · right
              exact ⟨fun h => by have := h.qq; (try simp only at this); omega, 23, by decide, fun w => chk_no_dq10 p c n b r f g tn tp tl tu q w xdn0 xdn1 xdq0 xdq1⟩
            · skip
              by_cases xdp0 : tp < 1
              · right
                exact ⟨fun h => by have := h.p; (try simp only at this); omega, 24, by decide, fun w => chk_no_dp00 p c n b r f g tn tp tl tu q w xdn0 xdn1 xdq0 xdq1 xdp0⟩
              · skip
                by_cases xdp1 : 9999 < tp
                · right
                  exact ⟨fun h => by have := h.p; (try simp only at this); omega, 24, by decide, fun w => chk_no_dp10 p c n b r f g tn tp tl tu q w xdn0 xdn1 xdq0 xdq1 xdp0 xdp1⟩
                · skip
                  by_cases xdl0 : tl < 1
                  · right
                    exact ⟨fun h => by have := h.l; (try simp only at this); omega, 25, by decide, fun w => chk_no_dl00 p c n b r f g tn tp tl tu q w xdn0 xdn1 xdq0 xdq1 xdp0 xdp1 xdl0⟩
                  · skip
                    by_cases xdl1 : q < tl
                    · right
                      exact ⟨fun h => by have := h.l; (try simp only at this); omega, 25, by decide, fun w => chk_no_dl10 p c n b r f g tn tp tl tu q w xdn0 xdn1 xdq0 xdq1 xdp0 xdp1 xdl0 xdl1⟩
                    · skip
                      by_cases xdu0 : tu ≤ 0
                      · right
                        exact ⟨fun h => by have := h.u; (try simp only at this); omega, 26, by decide, fun w => chk_no_du00 p c n b r f g tn tp tl tu q w xdn0 xdn1 xdq0 xdq1 xdp0 xdp1 xdl0 xdl1 xdu0⟩
                      · skip
                        by_cases xdu1 : 1000000 < tu
                        · right
                          exact ⟨fun h => by have := h.u; (try simp only at this); omega, 26, by decide, fun w => chk_no_du10 p c n b r f g tn tp tl tu q w xdn0 xdn1 xdq0 xdq1 xdp0 xdp1 xdl0 xdl1 xdu0 xdu1⟩
                        · skip
                          left
                          exact ⟨⟨by simp only; omega, by simp, by omega, by simp only; omega, by simp only; omega, by simp only; omega⟩, fun w => chk_ok0 p c n b r f g tn tp tl tu q w (by omega) (by omega) (by omega) (by omega) (by omega)⟩
        · skip
          by_cases xdq0 : q < 1
          · right
            exact ⟨fun h => by have := h.qq; (try simp only at this); omega, 23, by decide, fun w => chk_no_dq01 p c n b r f g tn tp tl tu q w xdn0 xdn1 xdq0⟩
          · skip
            by_cases xdq1 : 9999 < q
            · right
              exact ⟨fun h => by have := h.qq; (try simp only at this); omega, 23, by decide, fun w => chk_no_dq11 p c n b r f g tn tp tl tu q w xdn0 xdn1 xdq0 xdq1⟩
            · skip
              by_cases xdp0 : tp < 1
              · right
                exact ⟨fun h => by have := h.p; (try simp only at this); omega, 24, by decide, fun w => chk_no_dp01 p c n b r f g tn tp tl tu q w xdn0 xdn1 xdq0 xdq1 xdp0⟩
              · skip
                by_cases xdp1 : 9999 < tp
                · right
                  exact ⟨fun h => by have := h.p; (try simp only at this); omega, 24, by decide, fun w => chk_no_dp11 p c n b r f g tn tp tl tu q w xdn0 xdn1 xdq0 xdq1 xdp0 xdp1⟩
                · skip
                  by_cases xdl0 : tl < 1
                  · right
                    exact ⟨fun h => by have := h.l; (try simp only at this); omega, 25, by decide, fun w => chk_no_dl01 p c n b r f g tn tp tl tu q w xdn0 xdn1 xdq0 xdq1 xdp0 xdp1 xdl0⟩
                  · skip
                    by_cases xdl1 : q < tl
                    · right
                      exact ⟨fun h => by have := h.l; (try simp only at this); omega, 25, by decide, fun w => chk_no_dl11 p c n b r f g tn tp tl tu q w xdn0 xdn1 xdq0 xdq1 xdp0 xdp1 xdl0 xdl1⟩
                    · skip
                      by_cases xdu0 : tu ≤ 0
                      · right
                        exact ⟨fun h => by have := h.u; (try simp only at this); omega, 26, by decide, fun w => chk_no_du01 p c n b r f g tn tp tl tu q w xdn0 xdn1 xdq0 xdq1 xdp0 xdp1 xdl0 xdl1 xdu0⟩
                      · skip
                        by_cases xdu1 : 1000000 < tu
                        · right
                          exact ⟨fun h => by have := h.u; (try simp only at this); omega, 26, by decide, fun w => chk_no_du11 p c n b r f g tn tp tl tu q w xdn0 xdn1 xdq0 xdq1 xdp0 xdp1 xdl0 xdl1 xdu0 xdu1⟩
                        · skip
                          left
                          exact ⟨⟨by simp only; omega, by simp, by omega, by simp only; omega, by simp only; omega, by simp only; omega⟩, fun w => chk_ok1 p c n b r f g tn tp tl tu q w (by omega) (by omega) (by omega) (by omega) (by omega)⟩
section
variable {C : Cfg}
set_option maxRecDepth 100000 in
set_option maxHeartbeats 16000000 in
theorem words_is (hC : C.Ok) (w : World) : Calls Try.prog 56 #[RC C] w fun e w' => e = .returned (.int .i64 (C.N : Int)) ∧ Below w.heap.size w w' := by
  have h24 := hC.a24
  have h8 := hC.n8
  have hf := hC.hf
  have hg := hC.hg
  have hA : (C.A : Int) = (C.p : Int) * (C.c : Int) := by unfold Cfg.A; exact_mod_cast rfl
  have hN : (C.N : Int) = (C.A : Int) * (2 + (C.g : Int) * ((C.f : Int) + 1)) := by
    unfold Cfg.N
    have : ((2 * C.A + C.A * (C.g * (C.f + 1)) : Nat) : Int) = 2 * (C.A : Int) + (C.A : Int) * ((C.g : Int) * ((C.f : Int) + 1)) := by push_cast; rfl
    rw [this, Int.mul_add (C.A : Int) 2, Int.mul_comm (C.A : Int) 2]
  have hgf : 0 ≤ (C.g : Int) * ((C.f : Int) + 1) ∧ (C.g : Int) * ((C.f : Int) + 1) ≤ 75 := by
    constructor
    · exact Int.mul_nonneg (by omega) (by omega)
    · have := Nat.mul_le_mul hg.2 (show C.f + 1 ≤ 5 by omega)
      have h2 : ((C.g * (C.f + 1) : Nat) : Int) ≤ 75 := by omega
      push_cast at h2
      exact h2
  have W1 : IntKind.i64.wrap ((C.g : Int) * ((C.f : Int) + 1)) = (C.g : Int) * ((C.f : Int) + 1) := IntWalk.i64_in _ (by omega)
  have W2 : IntKind.i64.wrap (2 + (C.g : Int) * ((C.f : Int) + 1)) = 2 + (C.g : Int) * ((C.f : Int) + 1) := IntWalk.i64_in _ (by omega)
  have W3 : IntKind.i64.wrap ((C.A : Int) * (2 + (C.g : Int) * ((C.f : Int) + 1))) = (C.A : Int) * (2 + (C.g : Int) * ((C.f : Int) + 1)) := IntWalk.i64_in _ (by rw [← hN]; omega)
  have HAL := Lib.hid (fun W' => all_is C.p C.c C.A C.n C.b C.r (C.f : Int) (C.g : Int) W' rfl h24.2)
  have HSL := Lib.hid (fun W' => slots_is (C.p : Int) (C.c : Int) C.n C.b C.r (C.f : Int) (C.g : Int) W' (by omega))
  rw [hN]
  clear hA hN hgf
  unfold RC
  go_enter Try.func56, Try.ntmps56
  go_wp2_with fail
  refine wp_region_held_drew (S := fun w' => Bl w.heap.size [.int .i64 (C.p : Int), .int .i64 (C.c : Int), .int .i64 C.n, .int .i64 C.b, .int .i64 C.r, .int .i64 (C.f : Int), .int .i64 (C.g : Int)] w' ∧ Below w.heap.size w w') (by kernel_rfl) ⟨Bl.new w [.int .i64 (C.p : Int), .int .i64 (C.c : Int), .int .i64 C.n, .int .i64 C.b, .int .i64 C.r, .int .i64 (C.f : Int), .int .i64 (C.g : Int)] 52, ((Below.refl w.heap.size w).alloc (Nat.le_refl _) (Obj.cells #[.int .i64 (C.p : Int), .int .i64 (C.c : Int), .int .i64 C.n, .int .i64 C.b, .int .i64 C.r, .int .i64 (C.f : Int), .int .i64 (C.g : Int)] 52)).drew⟩ (fun hHeld => ?_)
  generalize (w.alloc (Obj.cells #[.int .i64 (C.p : Int), .int .i64 (C.c : Int), .int .i64 C.n, .int .i64 C.b, .int .i64 C.r, .int .i64 (C.f : Int), .int .i64 (C.g : Int)] 52)).drew = WD at hHeld ⊢
  refine tk (i := 0) (d := some 3) (v := ?_) (hy := Or.inl ⟨by rfl, ?_⟩) (h := ?_)
  rotate_left
  · intro wq hSw
    have hb9 := hSw.1
    have l7 := hb9.lt
    have z0 := hb9.cell 0 _ rfl
    have z1 := hb9.cell 1 _ rfl
    have z2 := hb9.cell 2 _ rfl
    have z3 := hb9.cell 3 _ rfl
    have z4 := hb9.cell 4 _ rfl
    have z5 := hb9.cell 5 _ rfl
    have z6 := hb9.cell 6 _ rfl
    go_simp
    try with_reducible rfl
  simp only [Act.put, tkA, tkB, tkC]
  refine tk (i := 2) (d := some 5) (v := ?_) (hy := Or.inl ⟨by rfl, ?_⟩) (h := ?_)
  rotate_left
  · intro wq hSw
    go_simp
    try with_reducible rfl
  simp only [Act.put, tkA, tkB, tkC]
  refine tk (i := 3) (d := some 6) (v := ?_) (hy := Or.inl ⟨by rfl, ?_⟩) (h := ?_)
  rotate_left
  · intro wq hSw
    go_simp
    try with_reducible rfl
  simp only [Act.put, tkA, tkB, tkC]
  refine tk (i := 4) (d := some 7) (v := ?_) (hy := Or.inl ⟨by rfl, ?_⟩) (h := ?_)
  rotate_left
  · intro wq hSw
    have hb9 := hSw.1
    have l7 := hb9.lt
    have z0 := hb9.cell 0 _ rfl
    have z1 := hb9.cell 1 _ rfl
    have z2 := hb9.cell 2 _ rfl
    have z3 := hb9.cell 3 _ rfl
    have z4 := hb9.cell 4 _ rfl
    have z5 := hb9.cell 5 _ rfl
    have z6 := hb9.cell 6 _ rfl
    go_simp
    try with_reducible rfl
  simp only [Act.put, tkA, tkB, tkC]
  refine tk (i := 5) (d := some 8) (v := ?_) (hy := Or.inl ⟨by rfl, ?_⟩) (h := ?_)
  rotate_left
  · intro wq hSw
    have hb9 := hSw.1
    have l7 := hb9.lt
    have z0 := hb9.cell 0 _ rfl
    have z1 := hb9.cell 1 _ rfl
    have z2 := hb9.cell 2 _ rfl
    have z3 := hb9.cell 3 _ rfl
    have z4 := hb9.cell 4 _ rfl
    have z5 := hb9.cell 5 _ rfl
    have z6 := hb9.cell 6 _ rfl
    go_simp
    try with_reducible rfl
  simp only [Act.put, tkA, tkB, tkC]
  refine wpAnyH_ready (rs := [1]) (by as_aux_lemma => kernel_rfl) (by simp) ?_
  refine AllReadyH.cons rfl (fun K hK => ?_) AllReadyH.nil
  go_simp
  refine (HAL.out WD).mono ?_
  rintro e WE ⟨rfl, hby⟩
  refine hK.out _ _ ⟨hHeld.1.below hby, Below.step hHeld.2 hby⟩ (fun hHeld => ?_)
  clear hK K hby
  try simp only [Act.put, tkA, tkB, tkC]
  refine wpAnyH_ready (rs := [6]) (by as_aux_lemma => kernel_rfl) (by simp) ?_
  refine AllReadyH.cons rfl (fun K hK => ?_) AllReadyH.nil
  go_simp
  refine (HSL.out WE).mono ?_
  rintro e WF ⟨rfl, hby⟩
  refine hK.out _ _ ⟨hHeld.1.below hby, Below.step hHeld.2 hby⟩ (fun hHeld => ?_)
  clear hK K hby
  try simp only [Act.put, tkA, tkB, tkC]
  refine tk (i := 7) (d := some 10) (v := ?_) (hy := Or.inl ⟨by rfl, ?_⟩) (h := ?_)
  rotate_left
  · intro wq hSw
    go_simp
    try with_reducible rfl
  simp only [Act.put, tkA, tkB, tkC]
  refine tk (i := 8) (d := some 11) (v := ?_) (hy := Or.inl ⟨by rfl, ?_⟩) (h := ?_)
  rotate_left
  · intro wq hSw
    go_simp
    try with_reducible rfl
  simp only [Act.put, tkA, tkB, tkC]
  refine tk (i := 9) (d := some 12) (v := ?_) (hy := Or.inl ⟨by rfl, ?_⟩) (h := ?_)
  rotate_left
  · intro wq hSw
    go_simp
    try with_reducible rfl
  simp only [Act.put, tkA, tkB, tkC]
  refine tk (i := 10) (d := some 2) (v := ?_) (hy := Or.inl ⟨by rfl, ?_⟩) (h := ?_)
  rotate_left
  · intro wq hSw
    go_simp
    try with_reducible rfl
  simp only [Act.put, tkA, tkB, tkC]
  refine wpAnyH_done (by as_aux_lemma => kernel_rfl) ?_ _
  go_wp2
  go_ret
  exact ⟨rfl, hHeld.2⟩
set_option maxRecDepth 100000 in
set_option maxHeartbeats 16000000 in
theorem may_ok (hC : C.Ok) (w : World) : Calls Try.prog 26 #[RC C] w fun e w' => e = .returned (.bool true) ∧ Below w.heap.size w w' := by
  have HCH := Lib.hid (fun W' => check_ok (C.p : Int) (C.c : Int) C.n C.b C.r (C.f : Int) (C.g : Int) W' (by have := hC.hp; omega) (by have := hC.hc; omega) hC.hn hC.hb hC.hr (by have := hC.hf; omega) (by have := hC.hg; omega))
  unfold RC
  go_enter Try.func26, Try.ntmps26
  go_wp2_with fail
  refine (HCH.out _).mono ?_
  rintro e w1 ⟨rfl, hb⟩
  have HB := Lib.hid hb
  clear hb
  go_wp2
  go_ret
  exact ⟨rfl, Below.step (by go_grown) HB.out⟩
set_option maxRecDepth 100000 in
set_option maxHeartbeats 16000000 in
theorem may_bad (p c n b r f g : Int) (w : World) (h : ¬ ((1 ≤ p ∧ p ≤ 6) ∧ (1 ≤ c ∧ c ≤ 4) ∧ (1 ≤ n ∧ n ≤ 3) ∧ (1 ≤ b ∧ b ≤ 4) ∧ (0 ≤ r ∧ r ≤ 4) ∧ (1 ≤ f ∧ f ≤ 4) ∧ (1 ≤ g ∧ g ≤ 15))) : Calls Try.prog 26 #[.agg #[.int .i64 p, .int .i64 c, .int .i64 n, .int .i64 b, .int .i64 r, .int .i64 f, .int .i64 g]] w fun e w' => e = .returned (.bool false) ∧ Below w.heap.size w w' := by
  have HCH := Lib.hid (fun W' => check_bad p c n b r f g W' h)
  clear h
  go_enter Try.func26, Try.ntmps26
  go_wp2_with fail
  refine (HCH.out _).mono ?_
  rintro e w1 ⟨i, rfl, hb⟩
  have HB := Lib.hid hb
  have hd : decide ((i : Int) < 0) = false := decide_eq_false (by omega)
  clear hb
  go_wp2
  go_ret
  exact ⟨rfl, Below.step (by go_grown) HB.out⟩
end
end Go.Proofs.Ytmjkhefgpobinaa
namespace Go.Proofs.Ytmjkhefgpobinaa
open Go.ChangeShapes Go.WideShapes Go.ChangeAt Go.RowKit
theorem PW.raise {K K' : Nat} {C : Cfg} {W M B Ck : Nat} {ws : Nat → Int} {st now : Int} {w : World} (h : PW K C W M B Ck ws st now (.slice none 0 0) [] w) (h1 : K ≤ K') (h2 : K' ≤ w.heap.size) : PW K' C W M B Ck ws st now (.slice none 0 0) [] w := by
  obtain ⟨l1, l2, l3, l4⟩ := h.lo
  exact ⟨h.blk, h.mem, h.clk, World.ownsRow_nil w K' _ _, ⟨by omega, by omega, by omega, by omega⟩, h2, h.ne⟩
section
variable {C : Cfg}
set_option maxRecDepth 100000 in
set_option maxHeartbeats 16000000 in
theorem pnew_is (hC : C.Ok) (w : World) : Calls Try.prog 27 #[RC C] w fun e w' => ∃ W M B Ck, e = .returned (.tuple #[.pointer (some ⟨W, 0, none⟩), .nilIface]) ∧ PW w'.heap.size C W M B Ck (fun _ => 0) 0 0 (.slice none 0 0) [] w' ∧ (w.heap.size ≤ W ∧ w.heap.size ≤ M ∧ w.heap.size ≤ B ∧ w.heap.size ≤ Ck) ∧ Below w.heap.size w w' := by
  have HNE := Lib.hid (fun W' => rnew_ok (C.p : Int) (C.c : Int) C.n C.b C.r (C.f : Int) (C.g : Int) W' (by have := hC.hp; omega) (by have := hC.hc; omega) hC.hn hC.hb hC.hr (by have := hC.hf; omega) (by have := hC.hg; omega))
  have HWO := Lib.hid (fun W' => words_is hC W')
  have HME := Lib.hid (fun W' => Mm.new_is C.N hC.n8 W')
  have hn0 : 0 ≤ (C.N : Int) := by omega
  unfold RC at HWO ⊢
  clear hC
  go_enter Try.func27, Try.ntmps27
  go_wp2_with fail
  refine (HNE.out _).mono ?_
  rintro e w1 ⟨rfl, hb1⟩
  have hs1 := hb1.size
  have hB0 : Below w.heap.size w (w.alloc (Obj.cells #[.int .i64 (C.p : Int), .int .i64 (C.c : Int), .int .i64 C.n, .int .i64 C.b, .int .i64 C.r, .int .i64 (C.f : Int), .int .i64 (C.g : Int)] 52)) := by go_grown
  have HB1 := Lib.hid (Below.step hB0 hb1)
  have hBR := (Bl.new w [.int .i64 (C.p : Int), .int .i64 (C.c : Int), .int .i64 C.n, .int .i64 C.b, .int .i64 C.r, .int .i64 (C.f : Int), .int .i64 (C.g : Int)] 52).below hb1
  have lR := hBR.lt
  have r0 := hBR.cell 0 _ rfl
  have f0 := hBR.frz 0
  have r1 := hBR.cell 1 _ rfl
  have f1 := hBR.frz 1
  have r2 := hBR.cell 2 _ rfl
  have f2 := hBR.frz 2
  have r3 := hBR.cell 3 _ rfl
  have f3 := hBR.frz 3
  have r4 := hBR.cell 4 _ rfl
  have f4 := hBR.frz 4
  have r5 := hBR.cell 5 _ rfl
  have f5 := hBR.frz 5
  have r6 := hBR.cell 6 _ rfl
  have f6 := hBR.frz 6
  go_wp2_with fail
  have HBR := Lib.hid (show Bl w.heap.size [.int .i64 (C.p : Int), .int .i64 (C.c : Int), .int .i64 C.n, .int .i64 C.b, .int .i64 C.r, .int .i64 (C.f : Int), .int .i64 (C.g : Int)] (((((((w1.setCell ⟨w.heap.size, 0, none⟩ (.int .i64 (C.p : Int))).setCell ⟨w.heap.size, 1, none⟩ (.int .i64 (C.c : Int))).setCell ⟨w.heap.size, 2, none⟩ (.int .i64 C.n)).setCell ⟨w.heap.size, 3, none⟩ (.int .i64 C.b)).setCell ⟨w.heap.size, 4, none⟩ (.int .i64 C.r)).setCell ⟨w.heap.size, 5, none⟩ (.int .i64 (C.f : Int))).setCell ⟨w.heap.size, 6, none⟩ (.int .i64 (C.g : Int))) from (((((((hBR.set 0 (.int .i64 (C.p : Int))).set 1 (.int .i64 (C.c : Int))).set 2 (.int .i64 C.n)).set 3 (.int .i64 C.b)).set 4 (.int .i64 C.r)).set 5 (.int .i64 (C.f : Int))).set 6 (.int .i64 (C.g : Int))))
  have HB1c := Lib.hid (show Below w.heap.size w (((((((w1.setCell ⟨w.heap.size, 0, none⟩ (.int .i64 (C.p : Int))).setCell ⟨w.heap.size, 1, none⟩ (.int .i64 (C.c : Int))).setCell ⟨w.heap.size, 2, none⟩ (.int .i64 C.n)).setCell ⟨w.heap.size, 3, none⟩ (.int .i64 C.b)).setCell ⟨w.heap.size, 4, none⟩ (.int .i64 C.r)).setCell ⟨w.heap.size, 5, none⟩ (.int .i64 (C.f : Int))).setCell ⟨w.heap.size, 6, none⟩ (.int .i64 (C.g : Int))) from (((((((HB1.out.setCell (p := ⟨w.heap.size, 0, none⟩) (Nat.le_refl _) (.int .i64 (C.p : Int))).setCell (p := ⟨w.heap.size, 1, none⟩) (Nat.le_refl _) (.int .i64 (C.c : Int))).setCell (p := ⟨w.heap.size, 2, none⟩) (Nat.le_refl _) (.int .i64 C.n)).setCell (p := ⟨w.heap.size, 3, none⟩) (Nat.le_refl _) (.int .i64 C.b)).setCell (p := ⟨w.heap.size, 4, none⟩) (Nat.le_refl _) (.int .i64 C.r)).setCell (p := ⟨w.heap.size, 5, none⟩) (Nat.le_refl _) (.int .i64 (C.f : Int))).setCell (p := ⟨w.heap.size, 6, none⟩) (Nat.le_refl _) (.int .i64 (C.g : Int))))
  clear hb1 hB0 hBR hs1 HB1 r0 f0 r1 f1 r2 f2 r3 f3 r4 f4 r5 f5 r6 f6
  generalize (((((((w1.setCell ⟨w.heap.size, 0, none⟩ (.int .i64 (C.p : Int))).setCell ⟨w.heap.size, 1, none⟩ (.int .i64 (C.c : Int))).setCell ⟨w.heap.size, 2, none⟩ (.int .i64 C.n)).setCell ⟨w.heap.size, 3, none⟩ (.int .i64 C.b)).setCell ⟨w.heap.size, 4, none⟩ (.int .i64 C.r)).setCell ⟨w.heap.size, 5, none⟩ (.int .i64 (C.f : Int))).setCell ⟨w.heap.size, 6, none⟩ (.int .i64 (C.g : Int))) = w1c at HBR HB1c ⊢
  have HB1 := HB1c
  refine (HWO.out _).mono ?_
  rintro e w2 ⟨rfl, hb2⟩
  have HB2 := Lib.hid (Below.step HB1.out hb2)
  have HBR2 := Lib.hid (HBR.out.below hb2)
  have hBR2 := HBR2.out
  have lR2 := hBR2.lt
  have r0 := hBR2.cell 0 _ rfl
  have r1 := hBR2.cell 1 _ rfl
  have r2 := hBR2.cell 2 _ rfl
  have r3 := hBR2.cell 3 _ rfl
  have r4 := hBR2.cell 4 _ rfl
  have r5 := hBR2.cell 5 _ rfl
  have r6 := hBR2.cell 6 _ rfl
  clear hb2 hBR2
  go_wp2_with fail
  refine (HME.out _).mono ?_
  rintro e w3 ⟨rfl, hm3, hb3⟩
  have HM3 := Lib.hid hm3
  have HB3 := Lib.hid (Below.step HB2.out hb3)
  clear lR2 r0 r1 r2 r3 r4 r5 r6
  have hBR3 := HBR2.out.below hb3
  have lR3 := hBR3.lt
  have r0 := hBR3.cell 0 _ rfl
  have r1 := hBR3.cell 1 _ rfl
  have r2 := hBR3.cell 2 _ rfl
  have r3 := hBR3.cell 3 _ rfl
  have r4 := hBR3.cell 4 _ rfl
  have r5 := hBR3.cell 5 _ rfl
  have r6 := hBR3.cell 6 _ rfl
  have z2 := HB2.out.size
  clear hm3 hb3 hBR3
  go_wp2
  go_ret2
  have g0 : Below w3.heap.size w3 (w3.alloc (Obj.cells #[.int .i64 0] 131)) := by go_grown
  have g1 : Below (w3.alloc (Obj.cells #[.int .i64 0] 131)).heap.size (w3.alloc (Obj.cells #[.int .i64 0] 131)) ((w3.alloc (Obj.cells #[.int .i64 0] 131)).alloc (Obj.cells #[.int .i64 (C.p : Int), .int .i64 (C.c : Int), .int .i64 C.n, .int .i64 C.b, .int .i64 C.r, .int .i64 (C.f : Int), .int .i64 (C.g : Int), .pointer (some ⟨w2.heap.size + 1, 0, none⟩), .pointer (some ⟨w3.heap.size, 0, none⟩), .slice none 0 0] 57)) := by go_grown
  have e0 : (w3.alloc (Obj.cells #[.int .i64 0] 131)).heap.size = w3.heap.size + 1 := World.size_alloc _ _
  have z3 := HM3.out.ml
  refine ⟨w3.heap.size + 1, w2.heap.size + 1, w2.heap.size, w3.heap.size, rfl, ⟨?_, ⟨_, _, _, _, _, (HM3.out.below g0).below g1⟩, (Bl.new w3 [.int .i64 0] 131).below g1, World.ownsRow_nil _ _ _ _, ?_, Nat.le_refl _, ?_⟩, ?_, ?_⟩
  · have := Bl.new (w3.alloc (Obj.cells #[.int .i64 0] 131)) [.int .i64 (C.p : Int), .int .i64 (C.c : Int), .int .i64 C.n, .int .i64 C.b, .int .i64 C.r, .int .i64 (C.f : Int), .int .i64 (C.g : Int), .pointer (some ⟨w2.heap.size + 1, 0, none⟩), .pointer (some ⟨w3.heap.size, 0, none⟩), .slice none 0 0] 57
    rw [e0] at this
    exact this
  · rw [World.size_alloc, e0]; exact ⟨by omega, by omega, by omega, by omega⟩
  · exact ⟨by omega, by omega, by omega, by omega, by omega⟩
  · have := HB3.out.size
    exact ⟨by omega, by omega, by omega, by omega⟩
  · exact Below.step (Below.step HB3.out g0) g1
end
end Go.Proofs.Ytmjkhefgpobinaa

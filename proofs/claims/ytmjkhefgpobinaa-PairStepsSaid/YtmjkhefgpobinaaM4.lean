/-
  Texts of the machine of pairs, part 4.
-/
import Derived.Laws.BitsAllLaws
import Derived.Laws.BitsLemmas
import Derived.LaidEql
import Derived.Stop.Asserts
import Derived.RowKitTokens
import Derived.Deep.RegionLaw
import Derived.Test.YtmjkhefgpobinaaM1
import Derived.Test.YtmjkhefgpobinaaM3
namespace Go.Proofs.Ytmjkhefgpobinaa
open Go.ChangeShapes Go.WideShapes Go.ChangeAt Go.RowKit
theorem blk_up {w : World} {g : Nat} {o p : Obj} (h : w.heap[g]? = some o) : (w.alloc p).heap[g]? = some o := (Below.heap_alloc _ _ _ (blk_lt h)).trans h
/-- No layout, and an error. -/
def NewBad (c i : Int) (w : World) (e : Ending) (w' : World) : Prop := ∃ v, e = .returned (.tuple #[.agg Z0, v]) ∧ AtF w w' c i v ∧ Below w.heap.size w w'
/-- What is wrong with a width. -/
def badCode (x : Int) : Int := if x < 1 ∨ 32 < x then 5 else 4
set_option maxRecDepth 100000 in
set_option maxHeartbeats 4000000 in
theorem new_bad (A : Option Addr) (n cap : Nat) (ws s : Nat → Int) (w : World) (hR : RowI w A n ws) (j : Nat) (hj : j < n) (hS : Steps j s) (hw : ∀ k, k < j → s (k + 1) = s k + ws k) (hs : 0 ≤ s j ∧ s j ≤ 64) (hjj : j ≤ 64)
    (hb : ws j < 1 ∨ 32 < ws j ∨ 64 < s j + ws j) : Calls Try.prog 68 #[.slice A n cap] w (NewBad (badCode (ws j)) j w) := by
  have hzero := zero70
  have HR := Lib.hid hR
  have HS := Lib.hid hS
  have HW := Lib.hid hw
  have HBD := Lib.hid hb
  clear hR hS hw hb
  go_enter Try.func68, Try.ntmps68
  go_wp2_with fail
  have hb0 : ((w.alloc (Obj.cells Z0 123)).alloc (Obj.cells Z0 123)).heap[w.heap.size]? = some (.cells Z0 123 (0, 0)) := (Below.heap_alloc _ _ _ (by simp)).trans (heap_alloc_new w _)
  have hb1 : ((w.alloc (Obj.cells Z0 123)).alloc (Obj.cells Z0 123)).heap[w.heap.size + 1]? = some (.cells Z0 123 (0, 0)) := by
    have := heap_alloc_new (w.alloc (Obj.cells Z0 123)) (Obj.cells Z0 123)
    rw [World.size_alloc] at this
    exact this
  go_loopg [5, 10] n (fun gk x i wr => ∃ (k : Nat) (cs : Array Value), gk = n - k ∧ k ≤ j ∧ i = .int .i64 k ∧ x = .int .i64 (s k) ∧ wr.heap[w.heap.size]? = some (.cells Z0 123 (0, 0)) ∧ wr.heap[w.heap.size + 1]? = some (.cells cs 123 (0, 0)) ∧ Lay cs k (fun i => if i ≤ k then s i else 0) ∧ Below w.heap.size w wr)
  case atStart => exact ⟨0, Z0, by omega, Nat.zero_le _, rfl, by rw [HS.out.1], hb0, hb1, lay_zero s HS.out.1, by go_grown⟩
  case round =>
    clear hb0 hb1
    obtain ⟨k, cs, rfl, hk, rfl, rfl, hH0, hH1, hL, hB⟩ := hrel
    have HH0 := Lib.hid hH0
    have HH1 := Lib.hid hH1
    have HL := Lib.hid hL
    have hl1 := blk_lt hH1
    have hlt : k < n := by omega
    obtain ⟨g, off, rfl, hg, hz, z0, z1⟩ := HR.out k hlt
    have hz' : wr.cell? ⟨g, off + k, none⟩ = some (.int .i64 (ws k)) := (hB.cell (p := ⟨g, off + k, none⟩) hg).trans hz
    by_cases hkj : k < j
    · obtain ⟨s0, s1, s2, s3⟩ := HS.out.2.2 k hkj
      have hwk := HW.out k hkj
      have q1 : 1 ≤ ws k := by omega
      have q2 : ws k ≤ 32 := by omega
      have q3 : s k + ws k ≤ 64 := by omega
      have q4 : s k ≤ 64 := by omega
      have HWK := Lib.hid hwk
      clear hz hwk s1 s2 s3
      have d0 : wr.cell? ⟨w.heap.size + 1, 0, none⟩ = some (.int .i64 k) := by rw [cell_of_row _ _ _ _ _ _ hH1]; exact hL.cnt
      have d1 : wr.cell? ⟨w.heap.size + 1, 1 + (k + 1), none⟩ = some (.int .u8 0) := by rw [cell_of_row _ _ _ _ _ _ hH1, hL.at_ (k + 1) (by omega), if_neg (by omega)]
      have f0 : wr.frozen? ⟨w.heap.size + 1, 0, none⟩ = false := blk_frozen hH1 0
      have f1 : wr.frozen? ⟨w.heap.size + 1, 1 + (k + 1), none⟩ = false := blk_frozen hH1 _
      have e2 : (0 : Int) ≤ (k : Int) + 1 := by omega
      have e3 : (k : Int) + 1 < 65 := by omega
      have e4 : ((k : Int) + 1).toNat = k + 1 := by omega
      have e6 : IntKind.u8.wrap (s k + ws k) = s k + ws k := IntWalk.u8_in _ (by omega)
      clear hH0 hH1 hL
      go_wp2_with fail
      go_roundg (n - (k + 1))
      case measure => omega
      case rel =>
        refine ⟨k + 1, _, rfl, by omega, by go_num, by rw [HWK.out], blk_far (blk_far HH0.out (by show w.heap.size ≠ w.heap.size + 1; omega) _) (by show w.heap.size ≠ w.heap.size + 1; omega) _, blk_set (blk_set HH1.out 0 _) (1 + (k + 1)) _, ?_, (hB.setCell (by show w.heap.size ≤ w.heap.size + 1; omega) _).setCell (by show w.heap.size ≤ w.heap.size + 1; omega) _⟩
        have hls := lay_step (s := s) HL.out (by omega)
        rw [HWK.out] at hls
        exact hls
    · obtain rfl : k = j := by omega
      have hs1 := hB.size
      have HSZ := Lib.hid (lay_info (lay_zero s HS.out.1))
      have HZ1 := Lib.hid (lay_zero s HS.out.1).one
      have hbuild : ∀ W : World, (Sem.run Try.prog (zeroValue 123) W) = .ok (.agg Z0) W := zero70
      clear hz hH0 hH1 hL
      have hls := blk_lt HH0.out
      have fin : ∀ w1, Below wr.heap.size wr w1 → w1.heap[w.heap.size]? = some (.cells Z0 123 (0, 0)) := fun w1 hb => (hb.block w.heap.size hls).trans HH0.out
      have FIN := Lib.hid fin
      clear fin
      by_cases c1 : ws k < 1
      · go_wp2_with fail
        refine (at_code _ _ _).mono ?_
        rintro e w1 ⟨v, rfl, hF, hb1⟩
        have hB1 := Below.step hB hb1
        have HAT := Lib.hid hF
        have HS1 := Lib.hid hs1
        clear hF
        have HF1 := Lib.hid (FIN.out w1 hb1)
        clear hb1
        go_wp2_with (refine wpList_store_row rfl 123 _ _ rfl w.heap.size Z0 rfl rfl 123 Z0 HF1.out HSZ.out rfl HZ1.out ?_)
        refine bodyPost_ret (results_cell_tmp rfl _ _ w.heap.size 123 _ (0, 0) _ rfl (heap_setRow _ _ _ _ _ HF1.out) Try.underlying123 rfl HSZ.out) rfl ?_
        exact ⟨_, rfl, by rw [show badCode (ws k) = 5 from if_pos (.inl c1)]; exact (HAT.out.setRow hls _).low HS1.out, below_setRow hB1 (Nat.le_refl _) _⟩
      · have c1' : 1 ≤ ws k := by omega
        by_cases c2 : 32 < ws k
        · go_wp2_with fail
          refine (at_code _ _ _).mono ?_
          rintro e w1 ⟨v, rfl, hF, hb1⟩
          have hB1 := Below.step hB hb1
          have HAT := Lib.hid hF
          have HS1 := Lib.hid hs1
          clear hF
          have HF1 := Lib.hid (FIN.out w1 hb1)
          clear hb1
          go_wp2_with (refine wpList_store_row rfl 123 _ _ rfl w.heap.size Z0 rfl rfl 123 Z0 HF1.out HSZ.out rfl HZ1.out ?_)
          refine bodyPost_ret (results_cell_tmp rfl _ _ w.heap.size 123 _ (0, 0) _ rfl (heap_setRow _ _ _ _ _ HF1.out) Try.underlying123 rfl HSZ.out) rfl ?_
          exact ⟨_, rfl, by rw [show badCode (ws k) = 5 from if_pos (.inr c2)]; exact (HAT.out.setRow hls _).low HS1.out, below_setRow hB1 (Nat.le_refl _) _⟩
        · have c2' : ws k ≤ 32 := by omega
          have c3 : 64 < s k + ws k := by have := HBD.out; omega
          go_wp2_with fail
          refine (at_code _ _ _).mono ?_
          rintro e w1 ⟨v, rfl, hF, hb1⟩
          have hB1 := Below.step hB hb1
          have HAT := Lib.hid hF
          have HS1 := Lib.hid hs1
          clear hF
          have HF1 := Lib.hid (FIN.out w1 hb1)
          clear hb1
          go_wp2_with (refine wpList_store_row rfl 123 _ _ rfl w.heap.size Z0 rfl rfl 123 Z0 HF1.out HSZ.out rfl HZ1.out ?_)
          refine bodyPost_ret (results_cell_tmp rfl _ _ w.heap.size 123 _ (0, 0) _ rfl (heap_setRow _ _ _ _ _ HF1.out) Try.underlying123 rfl HSZ.out) rfl ?_
          exact ⟨_, rfl, by rw [show badCode (ws k) = 4 from if_neg (by omega)]; exact (HAT.out.setRow hls _).low HS1.out, below_setRow hB1 (Nat.le_refl _) _⟩
def pre_ (ws : Nat → Int) : Nat → Int
  | 0 => 0
  | k + 1 => pre_ ws k + ws k
theorem steps_cut {n : Nat} {s : Nat → Int} (h : Steps n s) : Steps n (fun k => if k ≤ n then s k else 0) := by
  refine ⟨by simp [h.1], h.2.1, fun k hk => ?_⟩
  have := h.2.2 k hk
  dsimp only
  rw [if_pos (by omega), if_pos (by omega)]
  exact this
theorem pre_steps (ws : Nat → Int) (j : Nat) (h : ∀ k, k < j → 1 ≤ ws k ∧ ws k ≤ 32 ∧ pre_ ws k + ws k ≤ 64) : Steps j (pre_ ws) ∧ (j : Int) ≤ pre_ ws j ∧ pre_ ws j ≤ 64 := by
  have hm : ∀ k, k ≤ j → (k : Int) ≤ pre_ ws k ∧ pre_ ws k ≤ 64 := by
    intro k
    induction k with
    | zero => intro _; exact ⟨Int.le_refl _, by show (0 : Int) ≤ 64; decide⟩
    | succ k ih =>
      intro hk
      have h1 := ih (by omega)
      have h2 := h k (by omega)
      show ((k + 1 : Nat) : Int) ≤ pre_ ws k + ws k ∧ pre_ ws k + ws k ≤ 64
      omega
  have hj := hm j (Nat.le_refl _)
  refine ⟨⟨rfl, by omega, fun k hk => ?_⟩, hj.1, hj.2⟩
  have h1 := hm k (by omega)
  have h2 := h k hk
  have e : pre_ ws (k + 1) = pre_ ws k + ws k := rfl
  rw [e]
  omega
theorem least (P : Nat → Prop) [DecidablePred P] (n : Nat) (h : ¬ ∀ k, k < n → P k) : ∃ j, j < n ∧ (∀ k, k < j → P k) ∧ ¬ P j := by
  induction n with
  | zero => exact absurd (fun k hk => absurd hk (Nat.not_lt_zero k)) h
  | succ n ih =>
    by_cases h1 : ∀ k, k < n → P k
    · refine ⟨n, Nat.lt_succ_self n, h1, fun hp => h fun k hk => ?_⟩
      rcases Nat.lt_or_ge k n with h2 | h2
      · exact h1 k h2
      · rw [show k = n by omega]; exact hp
    · obtain ⟨j, hj, h2, h3⟩ := ih h1
      exact ⟨j, by omega, h2, h3⟩
theorem row_below {A : Option Addr} {m : Nat} {z : Nat → Int} {w w' : World} (h : RowI w A m z) (hb : Below w.heap.size w w') : RowI w' A m z := fun k hk => by
  obtain ⟨g, off, e, hg, hc, h1, h2⟩ := h k hk
  exact ⟨g, off, e, Nat.lt_of_lt_of_le hg hb.size, (hb.cell (p := ⟨g, off + k, none⟩) hg).trans hc, h1, h2⟩
theorem parts_eq (A B a b P : Nat) (hA : A < P) (hB : B < P) (h : A + a * P = B + b * P) : A = B ∧ a = b := by
  have hP : 0 < P := by omega
  have e1 : (A + a * P) % P = A := by rw [Nat.add_mul_mod_self_right, Nat.mod_eq_of_lt hA]
  have e2 : (B + b * P) % P = B := by rw [Nat.add_mul_mod_self_right, Nat.mod_eq_of_lt hB]
  have h1 : A = B := by rw [← e1, ← e2, h]
  refine ⟨h1, ?_⟩
  subst h1
  have h2 : a * P = b * P := by omega
  exact Nat.eq_of_mul_eq_mul_right hP h2
theorem word_inj {n : Nat} {s z y : Nat → Int} (hS : Steps n s) (hz : ∀ k, k < n → 0 ≤ z k ∧ z k < 2 ^ (s (k + 1) - s k).toNat) (hy : ∀ k, k < n → 0 ≤ y k ∧ y k < 2 ^ (s (k + 1) - s k).toNat) :
    ∀ m, m ≤ n → word s z m = word s y m → ∀ k, k < m → z k = y k := by
  intro m
  induction m with
  | zero => intro _ _ k hk; exact absurd hk (Nat.not_lt_zero k)
  | succ m ih =>
    intro hm h k hk
    have l1 := word_lt hS hz m (by omega)
    have l2 := word_lt hS hy m (by omega)
    obtain ⟨e1, e2⟩ := parts_eq _ _ _ _ _ l1 l2 h
    rcases Nat.lt_or_ge k m with h2 | h2
    · exact ih (by omega) e1 k h2
    · have e : k = m := by omega
      subst e
      have p1 := (hz k (by omega)).1
      have p2 := (hy k (by omega)).1
      omega
end Go.Proofs.Ytmjkhefgpobinaa
namespace Go.Proofs.Ytmjkhefgpobinaa
open Go.ChangeShapes Go.WideShapes Go.ChangeAt Go.RowKit
theorem quiet_row {P : Program} {o : Oper} {a : Act} {C : World → Prop} {w : World} (ty : TypeId) (x : Operand) (ho : o.op = .load ty x)
    (g : Nat) (hx : a.eval x = .pointer (some ⟨g, 0, none⟩)) (t : TypeId) (cs : Array Value) (fr : Nat × Nat) (d : TypeDesc) (hg : w.heap[g]? = some (.cells cs t fr))
    (hu : P.underlying ty = some d) (hd : (match d with | .struct _ | .array _ _ => true | _ => false) = true) (hi : (P.info? ty).map (·.size) = some cs.size) : o.quietAt P a C w (.agg cs) := by
  unfold Oper.quietAt execOp
  simp only [ho, hx, Instr.loadAt, Instr.sureAddr, Sem.run_bind, Sem.run_pure, Result.andThen_ok, run_loadVar_row w g t ty cs fr d hg hu hd hi]
  exact ⟨rfl, rfl⟩
/-- What the loads read: a block that holds a layout. -/
def Cb (w : World) (B : Nat) (cs : Array Value) (wx : World) : Prop := wx.heap[B]? = some (.cells cs 123 (0, 0)) ∧ Below w.heap.size w wx
theorem Cb.below {w wx wy : World} {B : Nat} {cs : Array Value} (h : Cb w B cs wx) (hb : Below wx.heap.size wx wy) : Cb w B cs wy := ⟨(hb.block B (blk_lt h.1)).trans h.1, Below.step h.2 hb⟩
theorem call_cb {w wx : World} {B : Nat} {cs : Array Value} {fn : FuncId} {args : Array Value} {v : Value} (hT : ∀ W, Calls Try.prog fn args W fun e w' => e = .returned v ∧ Below W.heap.size W w') (h : Cb w B cs wx) : Calls Try.prog fn args wx fun e w' => e = .returned v ∧ Cb w B cs w' :=
  (hT wx).mono fun _ _ ⟨he, hb⟩ => ⟨he, h.below hb⟩
theorem region_cb {P : Program} {id : Nat} {Q : Exit → Act → World → Prop} {a : Act} {w W : World} {B : Nat} {cs : Array Value} {l' : List Oper} (hm : P.follows .mixedOrders = true) (hB : Region.lexB .any l'.toArray = true) (hC : Cb w B cs W.drew)
    (h : wpQuiet P l'.toArray (Cb w B cs) (fun a' => ∀ w', Cb w B cs w' → Q .normal a' w') l' a) : (Code.region id l'.toArray true).wp P Q a W := wp_region_quiet (C := Cb w B cs) hm hB hC (by simpa using h)
/-- A field of a word. -/
def fld (s : Nat → Int) (x : Nat) (k : Nat) : Int := ((x / 2 ^ (s k).toNat % 2 ^ (s (k + 1) - s k).toNat : Nat) : Int)
theorem get_num (x : Nat) (a : Nat) (w : Nat) (hx : x < 18446744073709551616) (hw : w ≤ 32) : wrap64 (bits .and .u64 ((x : Int) / 2 ^ a) (2 ^ w - 1)) = ((x / 2 ^ a % 2 ^ w : Nat) : Int) := by
  have p := pow_bd w hw
  have e1 : ((x : Int) / 2 ^ a) = ((x / 2 ^ a : Nat) : Int) := by simp
  have e2 : ((2 : Int) ^ w - 1) = ((2 ^ w - 1 : Nat) : Int) := by
    have h1 : 1 ≤ 2 ^ w := Nat.one_le_two_pow
    have h2 : ((2 ^ w : Nat) : Int) = (2 : Int) ^ w := by simp
    omega
  have hd : x / 2 ^ a ≤ x := Nat.div_le_self _ _
  have hq : 2 ^ w - 1 < 18446744073709551616 := by
    have h2 : ((2 ^ w : Nat) : Int) = (2 : Int) ^ w := by simp
    omega
  rw [e1, e2, u64_and_nat _ _ (by omega) hq, Nat.and_two_pow_sub_one_eq_mod]
  have hm : x / 2 ^ a % 2 ^ w < 2 ^ w := Nat.mod_lt _ (Nat.two_pow_pos _)
  have h2 : ((2 ^ w : Nat) : Int) = (2 : Int) ^ w := by simp
  rw [IntWalk.wrap64_in _ (by omega)]
set_option maxRecDepth 100000 in
set_option maxHeartbeats 4000000 in
theorem get43 {cs : Array Value} {n : Nat} {s : Nat → Int} (hL : Lay cs n s) (hS : Steps n s) (x k : Nat) (hx : x < 18446744073709551616) (hk : k < n) (w : World) :
    Calls Try.prog 49 #[.agg cs, .int .u64 (x : Int), .int .i64 (k : Int)] w fun e w' => e = .returned (.int .i64 (fld s x k)) ∧ Below w.heap.size w w' := by
  obtain ⟨s0, s1, s2, s3⟩ := hS.2.2 k hk
  have hn := hS.2.1
  have HSZ := Lib.hid (lay_info hL)
  have HA := Lib.hid (heap_alloc_new w (.cells cs 123))
  have HM := Lib.hid (fun W => most_yes hL k W hk hn s0 s1 s2 s3)
  have HG := Lib.hid (get_num x (s k).toNat (s (k + 1) - s k).toNat hx (by omega))
  have HL := Lib.hid hL
  have i0 : (0 : Int) ≤ (k : Int) := Int.natCast_nonneg k
  have i1 : (k : Int) < 65 := by omega
  have x0 : (0 : Int) ≤ (x : Int) := Int.natCast_nonneg x
  clear hS
  go_enter Try.func49, Try.ntmps49
  go_wp2_with (refine wpList_load_row rfl 123 _ rfl w.heap.size rfl 123 _ (0, 0) _ HA.out Try.underlying123 rfl HSZ.out ?_)
  refine (has_yes HL.out k _ (by omega) (by omega) hn).mono ?_
  rintro e w1 ⟨rfl, hb1⟩
  have hB1 : Below w.heap.size w w1 := Below.step (by go_grown) hb1
  have hK : Cb w w.heap.size cs w1.drew := ⟨(hb1.block w.heap.size (by simp)).trans HA.out, Below.drew hB1⟩
  clear hb1 hL
  go_wp2_with fail
  refine region_cb (by kernel_rfl) (by kernel_rfl) hK ?_
  clear hK
  iterate 4 (first | go_big_quiet_skip | (go_big_quiet_want; go_big_quiet_op; first | go_big_quiet_on | (refine ⟨_, fun _ _ => rfl, ?_⟩; go_big_quiet_on)))
  go_big_quiet_want
  refine ⟨.int .u8 (s k), fun wq hq => ?_, ?_⟩
  · have c1 : wq.cell? ⟨w.heap.size, 1 + k, none⟩ = some (.int .u8 (s k)) := by rw [cell_of_row _ _ _ _ _ _ hq.1]; exact HL.out.at_ k (by omega)
    unfold Oper.quietAt
    simp [go_sem, c1, Oper.quietUpon]
  simp only [Act.put, tkA, tkB, tkC]
  go_big_quiet_on
  iterate 1 (first | go_big_quiet_skip | (go_big_quiet_want; go_big_quiet_op; first | go_big_quiet_on | (refine ⟨_, fun _ _ => rfl, ?_⟩; go_big_quiet_on)))
  go_big_quiet_want
  refine ⟨.agg cs, fun wq hq => quiet_row 123 _ rfl w.heap.size rfl 123 cs (0, 0) _ hq.1 Try.underlying123 rfl HSZ.out, ?_⟩
  simp only [Act.put, tkA, tkB, tkC]
  go_big_quiet_on
  iterate 1 (first | go_big_quiet_skip | (go_big_quiet_want; go_big_quiet_op; first | go_big_quiet_on | (refine ⟨_, fun _ _ => rfl, ?_⟩; go_big_quiet_on)))
  go_big_quiet_want
  go_big_quiet_op
  refine ⟨_, fun wq hq => call_cb HM.out hq, ?_⟩
  go_big_quiet_on
  iterate 3 (first | go_big_quiet_skip | (go_big_quiet_want; go_big_quiet_op; first | go_big_quiet_on | (refine ⟨_, fun _ _ => rfl, ?_⟩; go_big_quiet_on)))
  refine wpQuiet_nil ?_
  intro wz hz
  have hBz := hz.2
  go_wp2
  go_ret
  exact ⟨by unfold fld; rw [← HG.out]; rfl, hBz⟩
theorem fld_fit {n : Nat} {s : Nat → Int} (x k : Nat) : 0 ≤ fld s x k ∧ fld s x k < 2 ^ (s (k + 1) - s k).toNat := by
  have hm : x / 2 ^ (s k).toNat % 2 ^ (s (k + 1) - s k).toNat < 2 ^ (s (k + 1) - s k).toNat := Nat.mod_lt _ (Nat.two_pow_pos _)
  have h2 : ((2 ^ (s (k + 1) - s k).toNat : Nat) : Int) = (2 : Int) ^ (s (k + 1) - s k).toNat := by simp
  unfold fld
  omega
theorem fld_bd {n : Nat} {s : Nat → Int} (hS : Steps n s) (x : Nat) : ∀ k, k < n → 0 ≤ fld s x k ∧ fld s x k ≤ 4294967296 := fun k hk => by
  have h1 := fld_fit (n := n) (s := s) x k
  have h2 := hS.2.2 k hk
  have h3 := pow_bd (s (k + 1) - s k).toNat (by omega)
  omega
theorem word_fld {n : Nat} {s : Nat → Int} (hS : Steps n s) (x : Nat) : ∀ k, k ≤ n → word s (fld s x) k = x % 2 ^ (s k).toNat := by
  intro k
  induction k with
  | zero => intro _; rw [hS.1]; simp [word, Nat.mod_one]
  | succ k ih =>
    intro hk
    obtain ⟨s0, s1, s2, s3⟩ := hS.2.2 k (by omega)
    have e : (s (k + 1)).toNat = (s k).toNat + (s (k + 1) - s k).toNat := by omega
    show word s (fld s x) k + (fld s x k).toNat * 2 ^ (s k).toNat = _
    rw [ih (by omega), e, Nat.pow_add, Nat.mod_mul]
    have e2 : (fld s x k).toNat = x / 2 ^ (s k).toNat % 2 ^ (s (k + 1) - s k).toNat := by unfold fld; rw [Int.toNat_natCast]
    rw [e2, Nat.mul_comm]
end Go.Proofs.Ytmjkhefgpobinaa
namespace Go.Proofs.Ytmjkhefgpobinaa
open Go.ChangeShapes Go.WideShapes Go.ChangeAt Go.RowKit
/-- A word with another number in a field. -/
def wthN (x a m v : Nat) : Nat := x % 2 ^ a + v * 2 ^ a + x / 2 ^ (a + m) * 2 ^ (a + m)
theorem wth_bits (x a m v : Nat) (hx : x < 2 ^ 64) (ham : a + m ≤ 64) (hv : v < 2 ^ m) : (x &&& (18446744073709551615 - (2 ^ m - 1) * 2 ^ a)) ||| v * 2 ^ a = wthN x a m v := by
  have h1 : x % 2 ^ a < 2 ^ a := Nat.mod_lt _ (Nat.two_pow_pos _)
  have e : 2 ^ (a + m) = 2 ^ m * 2 ^ a := by rw [Nat.pow_add, Nat.mul_comm]
  have h2 : (v + 1) * 2 ^ a ≤ 2 ^ m * 2 ^ a := Nat.mul_le_mul_right _ hv
  rw [Nat.add_mul, Nat.one_mul] at h2
  have h3 : x % 2 ^ a + v * 2 ^ a < 2 ^ (a + m) := by omega
  unfold wthN
  rw [← or_add _ _ _ h3, ← or_add _ _ _ h1]
  have hm1 : 1 ≤ 2 ^ m := Nat.one_le_two_pow
  have hy : (2 ^ m - 1) * 2 ^ a < 2 ^ 64 := by
    have h4 : (2 ^ m - 1 + 1) * 2 ^ a = 2 ^ (a + m) := by rw [Nat.sub_add_cancel hm1, e]
    rw [Nat.add_mul, Nat.one_mul] at h4
    have h5 : 2 ^ (a + m) ≤ 2 ^ 64 := Nat.pow_le_pow_right (by decide) ham
    have h6 := Nat.two_pow_pos a
    omega
  have e2 : 18446744073709551615 - (2 ^ m - 1) * 2 ^ a = 2 ^ 64 - ((2 ^ m - 1) * 2 ^ a + 1) := by omega
  rw [e2]
  apply Nat.eq_of_testBit_eq
  intro i
  rw [Nat.testBit_or, Nat.testBit_and, Nat.testBit_two_pow_sub_succ hy, Nat.testBit_or, Nat.testBit_or, Nat.testBit_mod_two_pow, Nat.testBit_mul_two_pow, Nat.testBit_mul_two_pow, Nat.testBit_mul_two_pow, Nat.testBit_two_pow_sub_one, Nat.testBit_div_two_pow]
  by_cases hxi : i < 64
  · by_cases c1 : i < a
    · have d1 : ¬ a ≤ i := by omega
      have d2 : ¬ a + m ≤ i := by omega
      simp [hxi, c1, d1, d2]
    · have d1 : a ≤ i := by omega
      by_cases c2 : i < a + m
      · have d2 : ¬ a + m ≤ i := by omega
        have d3 : i - a < m := by omega
        simp [hxi, c1, d1, d2, d3]
      · have d2 : a + m ≤ i := by omega
        have d3 : ¬ i - a < m := by omega
        have d4 : i - (a + m) + (a + m) = i := by omega
        have d5 : v.testBit (i - a) = false := by
          apply Nat.testBit_lt_two_pow
          exact Nat.lt_of_lt_of_le hv (Nat.pow_le_pow_right (by decide) (by omega))
        simp [hxi, c1, d1, d2, d3, d4, d5, Nat.add_comm]
  · have hz : x.testBit i = false := Nat.testBit_lt_two_pow (Nat.lt_of_lt_of_le hx (Nat.pow_le_pow_right (by decide) (by omega)))
    by_cases d1 : a ≤ i
    · have c1 : ¬ i < a := by omega
      have d2 : a + m ≤ i := by omega
      have d4 : i - (a + m) + (a + m) = i := by omega
      have d5 : v.testBit (i - a) = false := by
        apply Nat.testBit_lt_two_pow
        exact Nat.lt_of_lt_of_le hv (Nat.pow_le_pow_right (by decide) (by omega))
      simp [hxi, c1, d1, d2, d4, d5, hz, Nat.add_comm]
    · omega
theorem wth_low (x a m v : Nat) : wthN x a m v % 2 ^ a = x % 2 ^ a := by
  unfold wthN
  rw [show x / 2 ^ (a + m) * 2 ^ (a + m) = (x / 2 ^ (a + m) * 2 ^ m) * 2 ^ a by rw [Nat.mul_assoc, ← Nat.pow_add, Nat.add_comm m a], Nat.add_assoc, ← Nat.add_mul, Nat.add_mul_mod_self_right, Nat.mod_mod]
theorem wth_high (x a m v : Nat) (hv : v < 2 ^ m) : wthN x a m v / 2 ^ (a + m) = x / 2 ^ (a + m) := by
  have h1 : x % 2 ^ a < 2 ^ a := Nat.mod_lt _ (Nat.two_pow_pos _)
  have e : 2 ^ (a + m) = 2 ^ m * 2 ^ a := by rw [Nat.pow_add, Nat.mul_comm]
  have h2 : (v + 1) * 2 ^ a ≤ 2 ^ m * 2 ^ a := Nat.mul_le_mul_right _ hv
  rw [Nat.add_mul, Nat.one_mul] at h2
  have h3 : x % 2 ^ a + v * 2 ^ a < 2 ^ (a + m) := by omega
  unfold wthN
  rw [Nat.add_mul_div_right _ _ (Nat.two_pow_pos _), Nat.div_eq_of_lt h3, Nat.zero_add]
theorem wth_mid (x a m v : Nat) (hv : v < 2 ^ m) : wthN x a m v / 2 ^ a % 2 ^ m = v := by
  have h1 : x % 2 ^ a < 2 ^ a := Nat.mod_lt _ (Nat.two_pow_pos _)
  unfold wthN
  rw [show x / 2 ^ (a + m) * 2 ^ (a + m) = (x / 2 ^ (a + m) * 2 ^ m) * 2 ^ a by rw [Nat.mul_assoc, ← Nat.pow_add, Nat.add_comm m a], Nat.add_assoc, ← Nat.add_mul, Nat.add_mul_div_right _ _ (Nat.two_pow_pos _), Nat.div_eq_of_lt h1, Nat.zero_add, Nat.add_mul_mod_self_right, Nat.mod_eq_of_lt hv]
theorem wth_back (x a m v : Nat) (hv : v < 2 ^ m) : wthN (wthN x a m v) a m (x / 2 ^ a % 2 ^ m) = x := by
  rw [wthN, wth_low, wth_high _ _ _ _ hv]
  have h1 := Nat.div_add_mod x (2 ^ a)
  have h2 := Nat.div_add_mod (x / 2 ^ a) (2 ^ m)
  rw [Nat.div_div_eq_div_mul, ← Nat.pow_add] at h2
  rw [Nat.pow_add] at h2 ⊢
  generalize x / (2 ^ a * 2 ^ m) = hi at *
  generalize x / 2 ^ a % 2 ^ m = f at *
  generalize x % 2 ^ a = lo at *
  have h3 : lo + f * 2 ^ a + hi * (2 ^ a * 2 ^ m) = 2 ^ a * (2 ^ m * hi + f) + lo := by
    rw [Nat.mul_add, Nat.mul_comm f, Nat.mul_comm hi, Nat.mul_assoc]
    omega
  rw [h3, h2, h1]
theorem wth_lt (x a m v : Nat) (hx : x < 2 ^ 64) (ham : a + m ≤ 64) (hv : v < 2 ^ m) : wthN x a m v < 2 ^ 64 := by
  rw [← wth_bits x a m v hx ham hv]
  apply Nat.or_lt_two_pow
  · exact Nat.lt_of_le_of_lt Nat.and_le_left hx
  · have h2 : (v + 1) * 2 ^ a ≤ 2 ^ m * 2 ^ a := Nat.mul_le_mul_right _ hv
    rw [← Nat.pow_add, Nat.add_mul, Nat.one_mul] at h2
    have h5 : 2 ^ (m + a) ≤ 2 ^ 64 := Nat.pow_le_pow_right (by decide) (by omega)
    have h6 := Nat.two_pow_pos a
    omega
theorem mod_div (x b p : Nat) : x / 2 ^ b % 2 ^ p = x % 2 ^ (b + p) / 2 ^ b := by
  rw [Nat.pow_add, Nat.mod_mul_right_div_self]
theorem wth_below (x a m v b p : Nat) (h : b + p ≤ a) : wthN x a m v / 2 ^ b % 2 ^ p = x / 2 ^ b % 2 ^ p := by
  rw [mod_div, mod_div]
  have hd : 2 ^ (b + p) ∣ 2 ^ a := Nat.pow_dvd_pow 2 h
  rw [← Nat.mod_mod_of_dvd (wthN x a m v) hd, wth_low, Nat.mod_mod_of_dvd _ hd]
theorem wth_above (x a m v b p : Nat) (h : a + m ≤ b) (hv : v < 2 ^ m) : wthN x a m v / 2 ^ b % 2 ^ p = x / 2 ^ b % 2 ^ p := by
  have e : 2 ^ b = 2 ^ (a + m) * 2 ^ (b - (a + m)) := by rw [← Nat.pow_add]; congr 1; omega
  rw [e, ← Nat.div_div_eq_div_mul, ← Nat.div_div_eq_div_mul, wth_high _ _ _ _ hv]
theorem steps_le {n : Nat} {s : Nat → Int} (hS : Steps n s) (i j : Nat) (hj : j ≤ n) (h : i ≤ j) : s i ≤ s j := by
  induction j with
  | zero => have : i = 0 := by omega
            subst this; exact Int.le_refl _
  | succ j ih =>
    rcases Nat.lt_or_ge i (j + 1) with h1 | h1
    · have h2 := ih (by omega) (by omega)
      have h3 := (hS.2.2 j (by omega)).2.1
      omega
    · have : i = j + 1 := by omega
      subst this; exact Int.le_refl _
def wth (s : Nat → Int) (x i v : Nat) : Nat := wthN x (s i).toNat (s (i + 1) - s i).toNat v
theorem fld_wth {n : Nat} {s : Nat → Int} (hS : Steps n s) (x i v k : Nat) (hi : i < n) (hk : k < n) (hv : v < 2 ^ (s (i + 1) - s i).toNat) : fld s (wth s x i v) k = if k = i then (v : Int) else fld s x k := by
  obtain ⟨s0, s1, s2, s3⟩ := hS.2.2 i hi
  obtain ⟨t0, t1, t2, t3⟩ := hS.2.2 k hk
  by_cases h : k = i
  · subst h
    rw [if_pos rfl]
    unfold fld wth
    rw [wth_mid _ _ _ _ hv]
  · rw [if_neg h]
    unfold fld wth
    congr 1
    rcases Nat.lt_or_ge k i with h1 | h1
    · have h2 := steps_le hS (k + 1) i (by omega) h1
      exact wth_below _ _ _ _ _ _ (by omega)
    · have h2 := steps_le hS (i + 1) k (by omega) (by omega)
      exact wth_above _ _ _ _ _ _ (by omega) hv
theorem wth_wth {n : Nat} {s : Nat → Int} (x i v : Nat) (hv : v < 2 ^ (s (i + 1) - s i).toNat) : wth s (wth s x i v) i (fld s x i).toNat = x := by
  unfold wth fld
  rw [Int.toNat_natCast]
  exact wth_back _ _ _ _ hv
end Go.Proofs.Ytmjkhefgpobinaa
namespace Go
section
variable {P : Program} (w : World)
theorem equalIn_iface_int_Ytmjkhefgpobinaa (d : Nat) {ti tn : TypeId} {ms : Array (String × TypeId)} {i : TypeInfo} {k : IntKind} (a b : Int)
    (hi : P.underlying ti = some (.interface ms)) (hn : P.underlying tn = some (.int k)) (hinfo : P.info? tn = some i) (hcomp : i.comparable = true) :
    (Op.equalIn (d + 2) ti (.iface tn (.int k a)) (.iface tn (.int k b))).run P w = .ok (a == b) w := by
  simp [Op.equalIn, run_underlying hi, run_underlying hn, typeInfo, hinfo, hcomp]
theorem eql_iface_int_Ytmjkhefgpobinaa {ti tn : TypeId} {ms : Array (String × TypeId)} {i : TypeInfo} {k : IntKind} (a b : Int)
    (hi : P.underlying ti = some (.interface ms)) (hn : P.underlying tn = some (.int k)) (hinfo : P.info? tn = some i) (hcomp : i.comparable = true) :
    (binOp .eql ti (.iface tn (.int k a)) (.iface tn (.int k b))).run P w = .ok (.bool (a == b)) w := by
  simp only [binOp]
  simp [Op.equal, Op.maxDepth, equalIn_iface_int_Ytmjkhefgpobinaa w 9998 a b hi hn hinfo hcomp]
end
end Go
namespace Go.Proofs.Ytmjkhefgpobinaa
open Go.RowKit Go.Extern.Stop Go.Stop Go.Extern Go.ChangeShapes Go.WideShapes Go.ChangeAt
def cmpX : Array Value → Sem Value := Extern.ReflectliteType.method fun t => do Extern.Rtype.noPackHeld "Comparable" t; pure (.bool (← typeInfo t).comparable)
theorem isComparable (w : World) : (cmpX #[.agg #[.pointer (some ⟨0, 126, none⟩)]]).run Try.prog w = .ok (.bool true) w := by kernel_rfl
theorem isComp : (Try.prog.info? 126).map (·.comparable) = some true := by kernel_rfl
/-- A number, and what was there stays. -/
def IsNum (w : World) (c : Int) (e : Ending) (w' : World) : Prop := e = .returned (.int .i64 c) ∧ Below w.heap.size w w'
end Go.Proofs.Ytmjkhefgpobinaa
namespace Go.Proofs.Ytmjkhefgpobinaa
open Go.ChangeShapes Go.WideShapes Go.ChangeAt Go.RowKit
end Go.Proofs.Ytmjkhefgpobinaa
namespace Go.Proofs.Ytmjkhefgpobinaa
open Go.ChangeShapes Go.WideShapes Go.ChangeAt Go.RowKit
theorem with_num (x a m v : Nat) (hx : x < 18446744073709551616) (hm : m ≤ 32) (ham : a + m ≤ 64) (hv : v < 2 ^ m) :
    bits .or .u64 (bits .andNot .u64 (x : Int) (IntKind.u64.wrap ((2 ^ m - 1) * 2 ^ a))) (IntKind.u64.wrap ((v : Int) * 2 ^ a)) = ((wthN x a m v : Nat) : Int) := by
  have hm1 : 1 ≤ 2 ^ m := Nat.one_le_two_pow
  have e : 2 ^ (a + m) = 2 ^ m * 2 ^ a := by rw [Nat.pow_add, Nat.mul_comm]
  have h5 : 2 ^ (a + m) ≤ 2 ^ 64 := Nat.pow_le_pow_right (by decide) ham
  have h6 := Nat.two_pow_pos a
  have h4 : (2 ^ m - 1 + 1) * 2 ^ a = 2 ^ (a + m) := by rw [Nat.sub_add_cancel hm1, e]
  rw [Nat.add_mul, Nat.one_mul] at h4
  have h2 : (v + 1) * 2 ^ a ≤ 2 ^ m * 2 ^ a := Nat.mul_le_mul_right _ hv
  rw [Nat.add_mul, Nat.one_mul] at h2
  have e1 : ((2 : Int) ^ m - 1) * 2 ^ a = (((2 ^ m - 1) * 2 ^ a : Nat) : Int) := by
    rw [Int.natCast_mul, Int.natCast_sub hm1]; simp
  have e2 : ((v : Int)) * 2 ^ a = ((v * 2 ^ a : Nat) : Int) := by rw [Int.natCast_mul]; simp
  rw [e1, e2, IntWalk.u64_in _ (by omega), IntWalk.u64_in _ (by omega), u64_andNot_nat _ _ hx (by omega)]
  have h7 : x &&& (18446744073709551615 - (2 ^ m - 1) * 2 ^ a) ≤ x := Nat.and_le_left
  rw [u64_or_nat _ _ (by omega) (by omega), wth_bits x a m v (by omega) ham hv]
end Go.Proofs.Ytmjkhefgpobinaa
namespace Go.Proofs.Ytmjkhefgpobinaa
open Go.ChangeShapes Go.WideShapes Go.ChangeAt Go.RowKit
theorem ret_i64 {a b : Int} (h : a = b) : Ending.returned (.int .i64 a) = .returned (.int .i64 b) := by rw [h]
theorem val_u64 {a b : Int} (h : a = b) : Value.int .u64 a = .int .u64 b := by rw [h]
theorem val_i64 {a b : Int} (h : a = b) : Value.int .i64 a = .int .i64 b := by rw [h]
theorem div_step (x k : Nat) : ((x / 2 ^ k : Nat) : Int) / 2 = ((x / 2 ^ (k + 1) : Nat) : Int) := by
  rw [Nat.pow_succ, ← Nat.div_div_eq_div_mul]; rfl
/-- The bits of a field from some place on. -/
theorem get_step (x a m j : Nat) (hj : j < m) : x / 2 ^ (a + (j + 1)) % 2 ^ (m - (j + 1)) * 2 + x / 2 ^ (a + j) % 2 = x / 2 ^ (a + j) % 2 ^ (m - j) := by
  have e : m - j = (m - (j + 1)) + 1 := by omega
  rw [e, Nat.pow_succ', Nat.mod_mul, Nat.add_comm, Nat.mul_comm (x / 2 ^ (a + (j + 1)) % 2 ^ (m - (j + 1))) 2]
  rw [Nat.div_div_eq_div_mul, ← Nat.pow_succ]
  rfl
set_option maxHeartbeats 1000000 in
theorem rpack_len (A B : Option Addr) (n m c d : Nat) (w : World) (hm : m ≠ n) :
    Calls Try.prog 57 #[.slice A n c, .slice B m d] w fun e w' => e = .returned (.tuple #[.int .u64 0, .int .i64 1, .int .i64 0]) ∧ w = w' := by
  have hd : ((m : Int) != (n : Int)) = true := by rw [bne_iff_ne]; omega
  go_enter Try.func57, Try.ntmps57
  go_wp2
  go_ret3
  exact ⟨rfl, rfl⟩
theorem half_step (v k : Nat) : ((v / 2 ^ k : Nat) : Int) / 2 = ((v / 2 ^ (k + 1) : Nat) : Int) := div_step v k
theorem fits_iff (v : Int) (m : Nat) (h : 0 ≤ v) : v < 2 ^ m ↔ v.toNat / 2 ^ m = 0 := by
  have e : ((2 ^ m : Nat) : Int) = (2 : Int) ^ m := by simp
  rw [Nat.div_eq_zero_iff]
  have hp := Nat.two_pow_pos m
  omega
set_option maxHeartbeats 4000000 in
theorem rpack_bad {n : Nat} {s ws z : Nat → Int} (hS : Steps n s) (hw : ∀ k, k < n → s (k + 1) = s k + ws k) (A B : Option Addr) (c d : Nat) (w : World) (hR : RowI w A n ws) (hZ : RowI w B n z) (j : Nat) (hj : j < n) (hv : ∀ k, k < j → 0 ≤ z k ∧ z k < 2 ^ (s (k + 1) - s k).toNat) (hb : ¬ (0 ≤ z j ∧ z j < 2 ^ (s (j + 1) - s j).toNat)) :
    Calls Try.prog 57 #[.slice A n c, .slice B n d] w fun e w' => e = .returned (.tuple #[.int .u64 0, .int .i64 5, .int .i64 j]) ∧ w = w' := by
  have hn := hS.2.1
  have HS := Lib.hid hS
  have HW := Lib.hid hw
  have HR := Lib.hid hR
  have HZ := Lib.hid hZ
  have HV := Lib.hid hv
  have HBD := Lib.hid hb
  clear hS hw hR hZ hv hb
  go_enter Try.func57, Try.ntmps57
  go_wp2_with fail
  go_loop [7, 8, 9] (fun c _ _ => ∃ k : Nat, k ≤ j ∧ c = .int .i64 k) (fun c _ _ => n - (intOf c).toNat)
  case atStart => exact ⟨0, Nat.zero_le _, rfl⟩
  case round =>
    obtain ⟨k, hk, rfl⟩ := hrel
    have hlt : k < n := by omega
    obtain ⟨g, off, rfl, hg, hz, z0, z1⟩ := HZ.out k hlt
    obtain ⟨g2, off2, rfl, hg2, hz2, y0, y1⟩ := HR.out k hlt
    obtain ⟨s0, s1, s2, s3⟩ := HS.out.2.2 k hlt
    have hwk := HW.out k hlt
    obtain ⟨m, hm⟩ : ∃ m : Nat, ws k = m := ⟨(ws k).toNat, by omega⟩
    have hm1 : 1 ≤ m := by omega
    have hm2 : m ≤ 32 := by omega
    have em : (s (k + 1) - s k).toNat = m := by omega
    have HEM := Lib.hid em
    rw [hm] at hz2
    clear hwk s0 s1 s2 s3 y0 y1 hm em
    by_cases hneg : z k < 0
    · have hkj : k = j := by
        rcases Nat.lt_or_ge k j with h | h
        · have := (HV.out k h).1; omega
        · omega
      subst hkj
      go_wp2
      go_ret3
      exact ⟨rfl, rfl⟩
    · have hz3 : 0 ≤ z k := by omega
      obtain ⟨v, hv⟩ : ∃ v : Nat, z k = v := ⟨(z k).toNat, by omega⟩
      have HVK := Lib.hid hv
      rw [hv] at hz z1
      clear hv z0 hneg hz3
      have hv0 : (0 : Int) ≤ (v : Int) := by omega
      go_wp2_with fail
      go_loop [8, 9] (fun y i => ∃ t : Nat, t ≤ m ∧ i = .int .i64 t ∧ y = .int .i64 ((v / 2 ^ t : Nat) : Int)) (fun _ i => m - (intOf i).toNat)
      case atStart => exact ⟨0, Nat.zero_le _, rfl, by simp⟩
      case round =>
        obtain ⟨t, ht, rfl, rfl⟩ := hrel
        have HD := Lib.hid (div_step v t)
        have hb : v / 2 ^ t ≤ v := Nat.div_le_self _ _
        have hy0 : (0 : Int) ≤ ((v / 2 ^ t : Nat) : Int) := Int.natCast_nonneg _
        have hy1 : ((v / 2 ^ t : Nat) : Int) ≤ 9223372036854775807 := by omega
        by_cases htm : t < m
        · generalize ((v / 2 ^ t : Nat) : Int) = y at *
          go_wp2
          go_round
          case rel => exact ⟨t + 1, by omega, by go_num, val_i64 HD.out⟩
          case measure => simp [intOf]; omega
        · obtain rfl : t = m := by omega
          by_cases hkj : k < j
          · have h0 : v / 2 ^ t = 0 := by
              have h1 := (HV.out k hkj).2
              rw [HEM.out, fits_iff _ _ (by rw [HVK.out]; omega), HVK.out, Int.toNat_natCast] at h1
              exact h1
            rw [h0]
            clear h0 HD hb hy0 hy1
            go_wp2
            go_round
            case rel => exact ⟨k + 1, by omega, by go_num⟩
            case measure => simp [intOf]; omega
          · obtain rfl : k = j := by omega
            have h0 : (0 : Int) < ((v / 2 ^ t : Nat) : Int) := by
              have h1 := HBD.out
              rw [HEM.out, HVK.out] at h1
              have h2 : ¬ ((v : Int) < 2 ^ t) := fun h => h1 ⟨by omega, h⟩
              rw [fits_iff _ _ (by omega), Int.toNat_natCast] at h2
              omega
            generalize ((v / 2 ^ t : Nat) : Int) = y at *
            clear HD hb
            go_wp2
            go_ret3
            exact ⟨rfl, rfl⟩
/-- What is behind a place of a word. -/
theorem tail_step (W P Q m x zk wk wk1 : Nat) (h1 : W = wk1 + x * Q) (h2 : wk1 = wk + zk * P) (h3 : Q = 2 ^ m * P) : W = wk + (x * 2 ^ m + zk) * P := by
  subst h1 h2 h3
  rw [Nat.add_mul, Nat.mul_assoc]
  omega
set_option maxHeartbeats 4000000 in
theorem rpack_ok {n : Nat} {s ws z : Nat → Int} (hS : Steps n s) (hw : ∀ k, k < n → s (k + 1) = s k + ws k) (A B : Option Addr) (c d : Nat) (w : World) (hR : RowI w A n ws) (hZ : RowI w B n z) (hv : ∀ k, k < n → 0 ≤ z k ∧ z k < 2 ^ (s (k + 1) - s k).toNat) :
    Calls Try.prog 57 #[.slice A n c, .slice B n d] w fun e w' => e = .returned (.tuple #[.int .u64 (word s z n), .int .i64 0, .int .i64 0]) ∧ w = w' := by
  have hn := hS.2.1
  have HS := Lib.hid hS
  have HW := Lib.hid hw
  have HR := Lib.hid hR
  have HZ := Lib.hid hZ
  have HV := Lib.hid hv
  clear hS hw hR hZ hv
  go_enter Try.func57, Try.ntmps57
  go_wp2_with fail
  go_loop [7, 8, 9] (fun c _ _ => ∃ k : Nat, k ≤ n ∧ c = .int .i64 k) (fun c _ _ => n - (intOf c).toNat)
  case atStart => exact ⟨0, Nat.zero_le _, rfl⟩
  case round =>
    obtain ⟨k, hk, rfl⟩ := hrel
    by_cases hlt : k < n
    · obtain ⟨g, off, rfl, hg, hz, z0, z1⟩ := HZ.out k hlt
      obtain ⟨g2, off2, rfl, hg2, hz2, y0, y1⟩ := HR.out k hlt
      obtain ⟨s0, s1, s2, s3⟩ := HS.out.2.2 k hlt
      have hwk := HW.out k hlt
      obtain ⟨m, hm⟩ : ∃ m : Nat, ws k = m := ⟨(ws k).toNat, by omega⟩
      have hm1 : 1 ≤ m := by omega
      have hm2 : m ≤ 32 := by omega
      have em : (s (k + 1) - s k).toNat = m := by omega
      have HEM := Lib.hid em
      rw [hm] at hz2
      have hz3 := (HV.out k hlt).1
      clear hwk s0 s1 s2 s3 y0 y1 hm em
      obtain ⟨v, hv⟩ : ∃ v : Nat, z k = v := ⟨(z k).toNat, by omega⟩
      have HVK := Lib.hid hv
      rw [hv] at hz z1
      clear hv z0 hz3
      have hv0 : (0 : Int) ≤ (v : Int) := by omega
      go_wp2_with fail
      go_loop [8, 9] (fun y i => ∃ t : Nat, t ≤ m ∧ i = .int .i64 t ∧ y = .int .i64 ((v / 2 ^ t : Nat) : Int)) (fun _ i => m - (intOf i).toNat)
      case atStart => exact ⟨0, Nat.zero_le _, rfl, by simp⟩
      case round =>
        obtain ⟨t, ht, rfl, rfl⟩ := hrel
        have HD := Lib.hid (div_step v t)
        have hb : v / 2 ^ t ≤ v := Nat.div_le_self _ _
        have hy0 : (0 : Int) ≤ ((v / 2 ^ t : Nat) : Int) := Int.natCast_nonneg _
        have hy1 : ((v / 2 ^ t : Nat) : Int) ≤ 9223372036854775807 := by omega
        by_cases htm : t < m
        · generalize ((v / 2 ^ t : Nat) : Int) = y at *
          go_wp2
          go_round
          case rel => exact ⟨t + 1, by omega, by go_num, val_i64 HD.out⟩
          case measure => simp [intOf]; omega
        · obtain rfl : t = m := by omega
          have h0 : v / 2 ^ t = 0 := by
            have h1 := (HV.out k hlt).2
            rw [HEM.out, fits_iff _ _ (by rw [HVK.out]; omega), HVK.out, Int.toNat_natCast] at h1
            exact h1
          rw [h0]
          clear h0 HD hb hy0 hy1
          go_wp2
          go_round
          case rel => exact ⟨k + 1, by omega, by go_num⟩
          case measure => simp [intOf]; omega
    · obtain rfl : k = n := by omega
      have HL := Lib.hid (word_lt HS.out HV.out)
      have hl : word s z k < 18446744073709551616 := by
        have h1 := HL.out k (Nat.le_refl _)
        have h2 : 2 ^ (s k).toNat ≤ 2 ^ 64 := Nat.pow_le_pow_right (by decide) (by
          rcases Nat.eq_zero_or_pos k with h | h
          · rw [h, HS.out.1]; decide
          · have := (HS.out.2.2 (k - 1) (by omega)).2.2.1
            rw [show k - 1 + 1 = k by omega] at this
            omega)
        omega
      have hk0 : (0 : Int) ≤ (k : Int) := by omega
      go_wp2_with fail
      go_loop [10, 11, 12] (fun x i _ => ∃ (t x' : Nat), t ≤ k ∧ i = .int .i64 ((t : Int) - 1) ∧ x = .int .u64 (x' : Int) ∧ word s z k = word s z t + x' * 2 ^ (s t).toNat) (fun _ i _ => (intOf i + 1).toNat)
      case atStart => exact ⟨k, 0, Nat.le_refl _, rfl, rfl, by simp⟩
      case round =>
        obtain ⟨t, x, ht, rfl, rfl, hx⟩ := hrel
        by_cases h0 : t = 0
        · subst h0
          have ex : x = word s z k := by
            have h1 : word s z 0 = 0 := rfl
            rw [h1, HS.out.1] at hx
            simp at hx
            exact hx.symm
          have EX := Lib.hid ex
          have ez : (((0 : Nat) : Int) - 1) = -1 := rfl
          rw [ez]
          clear ez ex hx
          go_wp2
          go_ret3
          exact ⟨by have e := EX.out; subst e; rfl, rfl⟩
        · obtain ⟨t, rfl⟩ : ∃ i, t = i + 1 := ⟨t - 1, by omega⟩
          have ez : (((t + 1 : Nat) : Int) - 1) = (t : Int) := by omega
          rw [ez]
          have htk : t < k := by omega
          obtain ⟨g, off, rfl, hg, hz, z0, z1⟩ := HZ.out t htk
          obtain ⟨g2, off2, rfl, hg2, hz2, y0, y1⟩ := HR.out t htk
          obtain ⟨s0, s1, s2, s3⟩ := HS.out.2.2 t htk
          have hwk := HW.out t htk
          obtain ⟨m, hm⟩ : ∃ m : Nat, ws t = m := ⟨(ws t).toNat, by omega⟩
          have hm1 : 1 ≤ m := by omega
          have hm2 : m ≤ 32 := by omega
          obtain ⟨a, ha⟩ : ∃ a : Nat, s t = a := ⟨(s t).toNat, by omega⟩
          have hz3 := HV.out t htk
          obtain ⟨v, hv⟩ : ∃ v : Nat, z t = v := ⟨(z t).toNat, by omega⟩
          have hq : 2 ^ (s (t + 1)).toNat = 2 ^ m * 2 ^ a := by rw [← Nat.pow_add]; congr 1; omega
          have hword : word s z (t + 1) = word s z t + v * 2 ^ a := by show word s z t + (z t).toNat * 2 ^ (s t).toNat = _; rw [hv, ha]; rfl
          have hfin := tail_step _ _ _ m x v _ _ hx hword hq
          have hpa := Nat.two_pow_pos a
          have hmx : x * 2 ^ m + v < 18446744073709551616 := by
            have h1 : x * 2 ^ m + v ≤ (x * 2 ^ m + v) * 2 ^ a := Nat.le_mul_of_pos_right _ hpa
            omega
          have HFIN := Lib.hid (show word s z k = word s z t + (x * 2 ^ m + v) * 2 ^ (s t).toNat from by rw [ha]; exact hfin)
          rw [hm] at hz2
          rw [hv] at hz z1
          have hv0 : (0 : Int) ≤ (v : Int) := by omega
          have ht0 : (0 : Int) ≤ (t : Int) := by omega
          clear ez hx hword hq hfin hz3 s0 s1 s2 s3 y0 y1 hwk ha hm hv z0 h0 hpa
          go_wp2_with fail
          go_loop [10, 12] (fun y i => ∃ q : Nat, q ≤ m ∧ i = .int .i64 q ∧ y = .int .u64 ((x * 2 ^ q : Nat) : Int)) (fun _ i => m - (intOf i).toNat)
          case atStart => exact ⟨0, Nat.zero_le _, rfl, by simp⟩
          case round =>
            obtain ⟨q, hq, rfl, rfl⟩ := hrel
            have hqm : x * 2 ^ q ≤ x * 2 ^ m := Nat.mul_le_mul_left _ (Nat.pow_le_pow_right (by decide) hq)
            by_cases hqlt : q < m
            · have hdb : x * 2 ^ q * 2 = x * 2 ^ (q + 1) := by rw [Nat.mul_assoc, ← Nat.pow_succ]
              have hdl : x * 2 ^ (q + 1) ≤ x * 2 ^ m := Nat.mul_le_mul_left _ (Nat.pow_le_pow_right (by decide) (by omega))
              have HDB := Lib.hid (show ((x * 2 ^ q : Nat) : Int) * 2 = ((x * 2 ^ (q + 1) : Nat) : Int) from by rw [← hdb]; rfl)
              have hyt : x * 2 ^ q * 2 < 18446744073709551616 := by omega
              generalize x * 2 ^ q = y at *
              have hy : (y : Int) * 2 ≤ 18446744073709551615 := by omega
              have hy0 : (0 : Int) ≤ (y : Int) := by omega
              clear hyt
              clear hdb hdl hqm
              go_wp2
              go_round
              case rel => exact ⟨q + 1, by omega, by go_num, val_u64 HDB.out⟩
              case measure => simp [intOf]; omega
            · obtain rfl : q = m := by omega
              have HFF := Lib.hid HFIN.out
              generalize hy : x * 2 ^ q = y at *
              have hy1 : (y : Int) + (v : Int) ≤ 18446744073709551615 := by omega
              have hy0 : (0 : Int) ≤ (y : Int) := by omega
              have HY := Lib.hid hy
              clear hqm hy
              go_wp2
              go_round
              case rel => exact ⟨t, y + v, by omega, rfl, val_u64 (by omega), HFF.out⟩
              case measure => (simp [intOf]; try omega)
end Go.Proofs.Ytmjkhefgpobinaa
namespace Go.Proofs.Ytmjkhefgpobinaa
open Go.ChangeShapes Go.WideShapes Go.ChangeAt Go.RowKit
def s2 : Nat → Int
  | 0 => 0 | 1 => 3 | 2 => 8 | _ => 0
theorem s2_steps : Steps 2 s2 := ⟨rfl, by decide, fun k hk => by match k, hk with | 0, _ | 1, _ => decide⟩
theorem s2_cut : (fun k => if k ≤ 2 then s2 k else 0) = s2 := by
  funext k
  by_cases h : k ≤ 2
  · rw [if_pos h]
  · rw [if_neg h]
    match k, h with
    | 0, h | 1, h | 2, h => exact absurd h (by decide)
    | n + 3, _ => rfl
theorem row2 (w : World) (t : TypeId) (a0 a1 : Int) (z : Nat → Int) (hz : z 0 = a0 ∧ z 1 = a1) (hb : ∀ k, k < 2 → -9223372036854775808 ≤ z k ∧ z k ≤ 9223372036854775807) :
    RowI (w.alloc (.cells #[.int .i64 a0, .int .i64 a1] t)) (some ⟨w.heap.size, 0, none⟩) 2 z := by
  obtain ⟨rfl, rfl⟩ := hz
  intro k hk
  refine ⟨w.heap.size, 0, rfl, by simp, ?_, (hb k hk).1, (hb k hk).2⟩
  match k, hk with
  | 0, _ => simp [go_sem]
  | 1, _ => simp [go_sem]
theorem steps_last {n : Nat} {s : Nat → Int} (h : Steps n s) : 0 ≤ s n ∧ s n ≤ 64 := by
  rcases Nat.eq_zero_or_pos n with h0 | h0
  · subst h0; rw [h.1]; exact ⟨Int.le_refl _, by decide⟩
  · have := h.2.2 (n - 1) (by omega)
    rw [show n - 1 + 1 = n by omega] at this
    omega
theorem row_of {w : World} {A : Option Addr} {len cap : Nat} {zs : List Int} (h : IsRow .i64 w A len cap zs) : RowI w A len (fun k => zs.getD k 0) := by
  intro k hk
  rcases h with ⟨rfl, rfl, rfl, rfl⟩ | ⟨x, rfl, hlc, hcm, hzl, hcell, hwz⟩
  · omega
  · obtain ⟨g, off, rfl, hc⟩ := ints_at hcell (by omega)
    have h := hc k (by omega)
    have hg : g < w.heap.size := by
      rcases Nat.lt_or_ge g w.heap.size with hlt | hge
      · exact hlt
      · exact absurd h (by simp [World.cell?, Array.getElem?_eq_none hge])
    have hw := bounds_i64 (hwz (zs.getD k 0) (by rw [List.getD_eq_getElem?_getD, List.getElem?_eq_getElem (by omega : k < zs.length)]; exact List.getElem_mem _))
    exact ⟨g, off, rfl, hg, h, hw.1, hw.2⟩
theorem len_le {w : World} {A : Option Addr} {len cap : Nat} {zs : List Int} (h : IsRow .i64 w A len cap zs) : len ≤ 9223372036854775807 := by
  rcases h with ⟨rfl, rfl, rfl, rfl⟩ | ⟨x, rfl, hlc, hcm, _⟩
  · omega
  · unfold maxLen at hcm; omega

theorem row_drew {A : Option Addr} {m : Nat} {z : Nat → Int} {w : World} (h : RowI w A m z) : RowI w.drew A m z := h
theorem cut_ws {n : Nat} (ws : Nat → Int) : ∀ k, k < n → (fun k => if k ≤ n then pre_ ws k else 0) (k + 1) = (fun k => if k ≤ n then pre_ ws k else 0) k + ws k := fun k hk => by
  dsimp only
  rw [if_pos (by omega), if_pos (by omega)]
  rfl
end Go.Proofs.Ytmjkhefgpobinaa
namespace Go.Proofs.Ytmjkhefgpobinaa
open Go.ChangeShapes Go.WideShapes Go.ChangeAt Go.RowKit
/-- Where fields begin. -/
def shc : Nat → Int
  | 0 => 0 | 1 => 4 | 2 => 5 | 3 => 13 | 4 => 29 | 5 => 37 | _ => 0
def wdc : Nat → Int
  | 0 => 4 | 1 => 1 | 2 => 8 | 3 => 16 | 4 => 8 | _ => 0
theorem shc_steps : Steps 5 shc := ⟨rfl, by decide, fun k hk => by
  match k, hk with
  | 0, _ | 1, _ | 2, _ | 3, _ | 4, _ => decide⟩
theorem shc_wd : ∀ k, k < 5 → shc (k + 1) = shc k + wdc k := fun k hk => by match k, hk with | 0, _ | 1, _ | 2, _ | 3, _ | 4, _ => rfl
theorem shc_cut : (fun k => if k ≤ 5 then shc k else 0) = shc := by
  funext k
  by_cases h : k ≤ 5
  · rw [if_pos h]
  · rw [if_neg h]
    match k, h with
    | 0, h | 1, h | 2, h | 3, h | 4, h | 5, h => exact absurd h (by decide)
    | n + 6, _ => rfl
theorem row5_new (w : World) (t : TypeId) (a0 a1 a2 a3 a4 : Int) (z : Nat → Int) (hz : z 0 = a0 ∧ z 1 = a1 ∧ z 2 = a2 ∧ z 3 = a3 ∧ z 4 = a4) (hb : ∀ k, k < 5 → -9223372036854775808 ≤ z k ∧ z k ≤ 9223372036854775807) :
    RowI (w.alloc (.cells #[.int .i64 a0, .int .i64 a1, .int .i64 a2, .int .i64 a3, .int .i64 a4] t)) (some ⟨w.heap.size, 0, none⟩) 5 z := by
  obtain ⟨rfl, rfl, rfl, rfl, rfl⟩ := hz
  intro k hk
  refine ⟨w.heap.size, 0, rfl, by simp, ?_, (hb k hk).1, (hb k hk).2⟩
  match k, hk with
  | 0, _ => simp [go_sem]
  | 1, _ => simp [go_sem]
  | 2, _ => simp [go_sem]
  | 3, _ => simp [go_sem]
  | 4, _ => simp [go_sem]
set_option maxRecDepth 100000 in
set_option maxHeartbeats 4000000 in
theorem layoutC (w : World) : Calls Try.prog 67 #[] w fun e w' => ∃ cs, e = .returned (.agg cs) ∧ Lay cs 5 shc ∧ Below w.heap.size w w' := by
  have hzero := zero70
  have hrow := row5_new (w.alloc (Obj.cells Z0 123)) 3 4 1 8 16 8 wdc ⟨rfl, rfl, rfl, rfl, rfl⟩ (fun k hk => by match k, hk with | 0, _ | 1, _ | 2, _ | 3, _ | 4, _ => decide)
  rw [World.size_alloc] at hrow
  have HROW := Lib.hid hrow
  clear hrow
  go_enter Try.func67, Try.ntmps67
  go_wp2_with fail
  refine (new_ok _ 5 5 wdc shc _ HROW.out shc_steps shc_wd).mono ?_
  rintro e w1 ⟨cs, rfl, hL, hb1⟩
  rw [shc_cut] at hL
  have hB1 : Below w.heap.size w w1 := Below.step (by go_grown) hb1
  have hz1 := hb1.size
  simp only [World.size_alloc] at hz1
  have hlt : w.heap.size < w1.heap.size := by omega
  have h0 : w1.heap[w.heap.size]? = some (.cells Z0 123 (0, 0)) := (hb1.block w.heap.size (by simp only [World.size_alloc]; omega)).trans ((Below.heap_alloc _ _ _ (by simp)).trans (heap_alloc_new w _))
  have HSZ := Lib.hid (lay_info hL)
  have HZS := Lib.hid (show Z0.size = cs.size from by rw [hL.size]; rfl)
  have HON := Lib.hid hL.one
  have g1 := heap_alloc_new w1 (Obj.cells Z0 123)
  have g2 := heap_setRow _ _ _ _ cs g1
  have g3 : ((w1.alloc (Obj.cells Z0 123)).setRow w1.heap.size cs).heap[w.heap.size]? = some (.cells Z0 123 (0, 0)) := by
    rw [World.setRow_alloc_new]
    exact (Below.heap_alloc _ _ _ hlt).trans h0
  have g4 := heap_setRow _ _ _ _ cs g3
  have HG1 := Lib.hid g1
  have HG2 := Lib.hid g2
  have HG3 := Lib.hid g3
  have HG4 := Lib.hid g4
  have HL := Lib.hid hL
  clear g1 g2 g3 g4 hL h0 hb1
  go_wp2_with (first | (refine wpList_store_row rfl 123 _ _ rfl w1.heap.size cs rfl rfl 123 Z0 HG1.out HSZ.out HZS.out HON.out ?_) | (refine wpList_load_row rfl 123 _ rfl w1.heap.size rfl 123 _ (0, 0) _ HG2.out Try.underlying123 rfl HSZ.out ?_) | (refine wpList_store_row rfl 123 _ _ rfl w.heap.size cs rfl rfl 123 Z0 HG3.out HSZ.out HZS.out HON.out ?_))
  refine bodyPost_ret (results_cell_row rfl _ _ w.heap.size 123 _ (0, 0) _ rfl HG4.out Try.underlying123 rfl HSZ.out) rfl ?_
  exact ⟨cs, rfl, HL.out, below_setRow (below_setRow (hB1.alloc hB1.size _) hB1.size _) (Nat.le_refl _) _⟩
/-- Where fields begin. -/
def shr : Nat → Int
  | 0 => 0 | 1 => 3 | 2 => 19 | 3 => 35 | 4 => 55 | 5 => 60 | 6 => 64 | _ => 0
def wdr : Nat → Int
  | 0 => 3 | 1 => 16 | 2 => 16 | 3 => 20 | 4 => 5 | 5 => 4 | _ => 0
theorem shr_steps : Steps 6 shr := ⟨rfl, by decide, fun k hk => by
  match k, hk with
  | 0, _ | 1, _ | 2, _ | 3, _ | 4, _ | 5, _ => decide⟩
theorem shr_wd : ∀ k, k < 6 → shr (k + 1) = shr k + wdr k := fun k hk => by match k, hk with | 0, _ | 1, _ | 2, _ | 3, _ | 4, _ | 5, _ => rfl
theorem shr_cut : (fun k => if k ≤ 6 then shr k else 0) = shr := by
  funext k
  by_cases h : k ≤ 6
  · rw [if_pos h]
  · rw [if_neg h]
    match k, h with
    | 0, h | 1, h | 2, h | 3, h | 4, h | 5, h | 6, h => exact absurd h (by decide)
    | n + 7, _ => rfl
theorem row6_new (w : World) (t : TypeId) (a0 a1 a2 a3 a4 a5 : Int) (z : Nat → Int) (hz : z 0 = a0 ∧ z 1 = a1 ∧ z 2 = a2 ∧ z 3 = a3 ∧ z 4 = a4 ∧ z 5 = a5) (hb : ∀ k, k < 6 → -9223372036854775808 ≤ z k ∧ z k ≤ 9223372036854775807) :
    RowI (w.alloc (.cells #[.int .i64 a0, .int .i64 a1, .int .i64 a2, .int .i64 a3, .int .i64 a4, .int .i64 a5] t)) (some ⟨w.heap.size, 0, none⟩) 6 z := by
  obtain ⟨rfl, rfl, rfl, rfl, rfl, rfl⟩ := hz
  intro k hk
  refine ⟨w.heap.size, 0, rfl, by simp, ?_, (hb k hk).1, (hb k hk).2⟩
  match k, hk with
  | 0, _ => simp [go_sem]
  | 1, _ => simp [go_sem]
  | 2, _ => simp [go_sem]
  | 3, _ => simp [go_sem]
  | 4, _ => simp [go_sem]
  | 5, _ => simp [go_sem]
set_option maxRecDepth 100000 in
set_option maxHeartbeats 4000000 in
theorem layoutR (w : World) : Calls Try.prog 48 #[] w fun e w' => ∃ cs, e = .returned (.agg cs) ∧ Lay cs 6 shr ∧ Below w.heap.size w w' := by
  have hzero := zero70
  have hrow := row6_new (w.alloc (Obj.cells Z0 123)) 3 3 16 16 20 5 4 wdr ⟨rfl, rfl, rfl, rfl, rfl, rfl⟩ (fun k hk => by match k, hk with | 0, _ | 1, _ | 2, _ | 3, _ | 4, _ | 5, _ => decide)
  rw [World.size_alloc] at hrow
  have HROW := Lib.hid hrow
  clear hrow
  go_enter Try.func48, Try.ntmps48
  go_wp2_with fail
  refine (new_ok _ 6 6 wdr shr _ HROW.out shr_steps shr_wd).mono ?_
  rintro e w1 ⟨cs, rfl, hL, hb1⟩
  rw [shr_cut] at hL
  have hB1 : Below w.heap.size w w1 := Below.step (by go_grown) hb1
  have hz1 := hb1.size
  simp only [World.size_alloc] at hz1
  have hlt : w.heap.size < w1.heap.size := by omega
  have h0 : w1.heap[w.heap.size]? = some (.cells Z0 123 (0, 0)) := (hb1.block w.heap.size (by simp only [World.size_alloc]; omega)).trans ((Below.heap_alloc _ _ _ (by simp)).trans (heap_alloc_new w _))
  have HSZ := Lib.hid (lay_info hL)
  have HZS := Lib.hid (show Z0.size = cs.size from by rw [hL.size]; rfl)
  have HON := Lib.hid hL.one
  have g1 := heap_alloc_new w1 (Obj.cells Z0 123)
  have g2 := heap_setRow _ _ _ _ cs g1
  have g3 : ((w1.alloc (Obj.cells Z0 123)).setRow w1.heap.size cs).heap[w.heap.size]? = some (.cells Z0 123 (0, 0)) := by
    rw [World.setRow_alloc_new]
    exact (Below.heap_alloc _ _ _ hlt).trans h0
  have g4 := heap_setRow _ _ _ _ cs g3
  have HG1 := Lib.hid g1
  have HG2 := Lib.hid g2
  have HG3 := Lib.hid g3
  have HG4 := Lib.hid g4
  have HL := Lib.hid hL
  clear g1 g2 g3 g4 hL h0 hb1
  go_wp2_with (first | (refine wpList_store_row rfl 123 _ _ rfl w1.heap.size cs rfl rfl 123 Z0 HG1.out HSZ.out HZS.out HON.out ?_) | (refine wpList_load_row rfl 123 _ rfl w1.heap.size rfl 123 _ (0, 0) _ HG2.out Try.underlying123 rfl HSZ.out ?_) | (refine wpList_store_row rfl 123 _ _ rfl w.heap.size cs rfl rfl 123 Z0 HG3.out HSZ.out HZS.out HON.out ?_))
  refine bodyPost_ret (results_cell_row rfl _ _ w.heap.size 123 _ (0, 0) _ rfl HG4.out Try.underlying123 rfl HSZ.out) rfl ?_
  exact ⟨cs, rfl, HL.out, below_setRow (below_setRow (hB1.alloc hB1.size _) hB1.size _) (Nat.le_refl _) _⟩
end Go.Proofs.Ytmjkhefgpobinaa
namespace Go.Proofs.Ytmjkhefgpobinaa
open Go.ChangeShapes Go.WideShapes Go.ChangeAt Go.RowKit
/-- A state in a block. -/
def Box (B : Nat) (k g l f : Int) (b : Bool) (w : World) : Prop :=
  (w.cell? ⟨B, 0, none⟩ = some (.int .i64 k) ∧ w.cell? ⟨B, 1, none⟩ = some (.bool b) ∧ w.cell? ⟨B, 2, none⟩ = some (.int .i64 g) ∧ w.cell? ⟨B, 3, none⟩ = some (.int .i64 l) ∧ w.cell? ⟨B, 4, none⟩ = some (.int .i64 f)) ∧
  (w.frozen? ⟨B, 0, none⟩ = false ∧ w.frozen? ⟨B, 1, none⟩ = false ∧ w.frozen? ⟨B, 2, none⟩ = false ∧ w.frozen? ⟨B, 3, none⟩ = false ∧ w.frozen? ⟨B, 4, none⟩ = false) ∧ B < w.heap.size
theorem Box.below {B : Nat} {k g l f : Int} {b : Bool} {w w' : World} (h : Box B k g l f b w) (hb : Below w.heap.size w w') : Box B k g l f b w' := by
  obtain ⟨⟨c0, c1, c2, c3, c4⟩, ⟨q0, q1, q2, q3, q4⟩, hl⟩ := h
  have hc : ∀ o, w'.cell? ⟨B, o, none⟩ = w.cell? ⟨B, o, none⟩ := fun o => hb.cell (p := ⟨B, o, none⟩) hl
  have hf : ∀ o, w'.frozen? ⟨B, o, none⟩ = w.frozen? ⟨B, o, none⟩ := fun o => hb.frozen (p := ⟨B, o, none⟩) hl
  exact ⟨⟨(hc 0).trans c0, (hc 1).trans c1, (hc 2).trans c2, (hc 3).trans c3, (hc 4).trans c4⟩, ⟨(hf 0).trans q0, (hf 1).trans q1, (hf 2).trans q2, (hf 3).trans q3, (hf 4).trans q4⟩, Nat.lt_of_lt_of_le hl hb.size⟩
theorem Box.new (w : World) (k g l f : Int) (b : Bool) : Box w.heap.size k g l f b (w.alloc (.cells #[.int .i64 k, .bool b, .int .i64 g, .int .i64 l, .int .i64 f] 42)) := by
  refine ⟨⟨?_, ?_, ?_, ?_, ?_⟩, ⟨?_, ?_, ?_, ?_, ?_⟩, ?_⟩ <;> simp [go_sem]
/-- A state is stored in a block. -/
def set5 (w : World) (X : Nat) (k g l f : Int) (b : Bool) : World :=
  (((((w.setCell ⟨X, 0, none⟩ (.int .i64 k)).setCell ⟨X, 1, none⟩ (.bool b)).setCell ⟨X, 2, none⟩ (.int .i64 g)).setCell ⟨X, 3, none⟩ (.int .i64 l)).setCell ⟨X, 4, none⟩ (.int .i64 f))
theorem frozen_setCell (w : World) (a b : Addr) (v : Value) : (w.setCell a v).frozen? b = w.frozen? b := by simp [go_sem]
theorem addr_ne {a b i j : Nat} (h : a ≠ b ∨ i ≠ j) : (⟨a, i, none⟩ : Addr) ≠ ⟨b, j, none⟩ := by
  intro e; injection e with e1 e2; rcases h with h | h
  · exact h e1
  · exact h e2
theorem cell_other (w : World) (a b i j : Nat) (v : Value) (h : a ≠ b ∨ i ≠ j) : (w.setCell ⟨a, i, none⟩ v).cell? ⟨b, j, none⟩ = w.cell? ⟨b, j, none⟩ := World.cell?_setCell_other _ _ _ _ (addr_ne h)
theorem cell_same (w : World) (a i : Nat) (v u : Value) (h : w.cell? ⟨a, i, none⟩ = some u) : (w.setCell ⟨a, i, none⟩ v).cell? ⟨a, i, none⟩ = some v := World.cell?_setCell_same _ _ _ h
theorem Box.set5_same {X : Nat} {k0 g0 l0 f0 : Int} {b0 : Bool} {w : World} (h : Box X k0 g0 l0 f0 b0 w) (k g l f : Int) (b : Bool) : Box X k g l f b (set5 w X k g l f b) := by
  obtain ⟨⟨c0, c1, c2, c3, c4⟩, ⟨q0, q1, q2, q3, q4⟩, hl⟩ := h
  refine ⟨⟨?_, ?_, ?_, ?_, ?_⟩, ⟨?_, ?_, ?_, ?_, ?_⟩, ?_⟩
  · unfold set5; rw [cell_other _ _ _ _ _ _ (.inr (by decide)), cell_other _ _ _ _ _ _ (.inr (by decide)), cell_other _ _ _ _ _ _ (.inr (by decide)), cell_other _ _ _ _ _ _ (.inr (by decide)), cell_same _ _ _ _ _ c0]
  · unfold set5; rw [cell_other _ _ _ _ _ _ (.inr (by decide)), cell_other _ _ _ _ _ _ (.inr (by decide)), cell_other _ _ _ _ _ _ (.inr (by decide))]; refine cell_same _ _ _ _ (.bool b0) ?_; rw [cell_other _ _ _ _ _ _ (.inr (by decide)), c1]
  · unfold set5; rw [cell_other _ _ _ _ _ _ (.inr (by decide)), cell_other _ _ _ _ _ _ (.inr (by decide))]; refine cell_same _ _ _ _ (.int .i64 g0) ?_; rw [cell_other _ _ _ _ _ _ (.inr (by decide)), cell_other _ _ _ _ _ _ (.inr (by decide)), c2]
  · unfold set5; rw [cell_other _ _ _ _ _ _ (.inr (by decide))]; refine cell_same _ _ _ _ (.int .i64 l0) ?_; rw [cell_other _ _ _ _ _ _ (.inr (by decide)), cell_other _ _ _ _ _ _ (.inr (by decide)), cell_other _ _ _ _ _ _ (.inr (by decide)), c3]
  · unfold set5; refine cell_same _ _ _ _ (.int .i64 f0) ?_; rw [cell_other _ _ _ _ _ _ (.inr (by decide)), cell_other _ _ _ _ _ _ (.inr (by decide)), cell_other _ _ _ _ _ _ (.inr (by decide)), cell_other _ _ _ _ _ _ (.inr (by decide)), c4]
  all_goals first | (unfold set5; simp only [frozen_setCell]; assumption) | (unfold set5; simp only [World.size_setCell]; assumption)
theorem Box.set5_other {B X : Nat} {k0 g0 l0 f0 : Int} {b0 : Bool} {w : World} (h : Box B k0 g0 l0 f0 b0 w) (hne : X ≠ B) (k g l f : Int) (b : Bool) : Box B k0 g0 l0 f0 b0 (set5 w X k g l f b) := by
  obtain ⟨⟨c0, c1, c2, c3, c4⟩, ⟨q0, q1, q2, q3, q4⟩, hl⟩ := h
  have hc : ∀ o, (set5 w X k g l f b).cell? ⟨B, o, none⟩ = w.cell? ⟨B, o, none⟩ := fun o => by
    unfold set5; rw [cell_other _ _ _ _ _ _ (.inl hne), cell_other _ _ _ _ _ _ (.inl hne), cell_other _ _ _ _ _ _ (.inl hne), cell_other _ _ _ _ _ _ (.inl hne), cell_other _ _ _ _ _ _ (.inl hne)]
  have hf : ∀ o, (set5 w X k g l f b).frozen? ⟨B, o, none⟩ = w.frozen? ⟨B, o, none⟩ := fun o => by unfold set5; simp only [frozen_setCell]
  refine ⟨⟨(hc 0).trans c0, (hc 1).trans c1, (hc 2).trans c2, (hc 3).trans c3, (hc 4).trans c4⟩, ⟨(hf 0).trans q0, (hf 1).trans q1, (hf 2).trans q2, (hf 3).trans q3, (hf 4).trans q4⟩, ?_⟩
  unfold set5; simp only [World.size_setCell]; exact hl
theorem below_set5 {W w : World} {B X : Nat} (h : Below B W w) (hX : B ≤ X) (k g l f : Int) (b : Bool) : Below B W (set5 w X k g l f b) := by
  unfold set5
  exact ((((h.setCell hX _).setCell hX _).setCell hX _).setCell hX _).setCell hX _
theorem size_set5 (w : World) (X : Nat) (k g l f : Int) (b : Bool) : (set5 w X k g l f b).heap.size = w.heap.size := by unfold set5; simp only [World.size_setCell]
theorem Box.set0_same {X : Nat} {k0 g l f : Int} {b : Bool} {w : World} (h : Box X k0 g l f b w) (k : Int) : Box X k g l f b (w.setCell ⟨X, 0, none⟩ (.int .i64 k)) := by
  obtain ⟨⟨c0, c1, c2, c3, c4⟩, ⟨q0, q1, q2, q3, q4⟩, hl⟩ := h
  refine ⟨⟨cell_same _ _ _ _ _ c0, ?_, ?_, ?_, ?_⟩, ⟨?_, ?_, ?_, ?_, ?_⟩, ?_⟩
  · rw [cell_other _ _ _ _ _ _ (.inr (by decide))]; exact c1
  · rw [cell_other _ _ _ _ _ _ (.inr (by decide))]; exact c2
  · rw [cell_other _ _ _ _ _ _ (.inr (by decide))]; exact c3
  · rw [cell_other _ _ _ _ _ _ (.inr (by decide))]; exact c4
  all_goals first | (simp only [frozen_setCell]; assumption) | (simp only [World.size_setCell]; assumption)
theorem Box.set0_other {B X : Nat} {k0 g l f : Int} {b : Bool} {w : World} (h : Box B k0 g l f b w) (hne : X ≠ B) (k : Int) : Box B k0 g l f b (w.setCell ⟨X, 0, none⟩ (.int .i64 k)) := by
  obtain ⟨⟨c0, c1, c2, c3, c4⟩, ⟨q0, q1, q2, q3, q4⟩, hl⟩ := h
  have hc : ∀ o, (w.setCell ⟨X, 0, none⟩ (.int .i64 k)).cell? ⟨B, o, none⟩ = w.cell? ⟨B, o, none⟩ := fun o => cell_other _ _ _ _ _ _ (.inl hne)
  refine ⟨⟨(hc 0).trans c0, (hc 1).trans c1, (hc 2).trans c2, (hc 3).trans c3, (hc 4).trans c4⟩, ⟨?_, ?_, ?_, ?_, ?_⟩, ?_⟩
  all_goals first | (simp only [frozen_setCell]; assumption) | (simp only [World.size_setCell]; assumption)
end Go.Proofs.Ytmjkhefgpobinaa

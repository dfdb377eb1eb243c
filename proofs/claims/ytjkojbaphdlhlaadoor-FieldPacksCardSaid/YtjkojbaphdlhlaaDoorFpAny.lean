/-
  Contracts of field.Sound, and of New and Pack at whatever comes.
-/
import Derived.Test.YtjkojbaphdlhlaaDoorRows
import Derived.WalkKit
import Derived.ProofKit
import Derived.OpenShut
import Derived.ShutString
import Derived.Below
import Derived.Outline
import Derived.WalkLawsBesides
import Derived.WalkSpells
import Derived.Handy
import Derived.Deep.QuietTactic
import Derived.BigQuiet
import Derived.RegionTactic
import Derived.ChangeAlike
import Derived.Lib.Hide
import Derived.Laws.Rows
import Derived.Laws.Tables
import Derived.Laws.CopyOwn
import Derived.Deep.WholeRow
import Derived.Deep.LoopGhost
import Derived.Laws.BitsAllLaws
import Derived.Laws.BitsLemmas
import Derived.IntWalk
import Derived.Test.YtjkojbaphdlhlaaDoorKit
import Derived.Test.YtjkojbaphdlhlaaDoorFpLay
namespace Go.Proofs.YtjkojbaphdlhlaaDoor.Fp
set_option linter.unusedVariables false
set_option linter.unusedSimpArgs false
open Go.ChangeShapes Go.WideShapes Go.ChangeAt Go.RowKit
theorem blk_up {w : World} {g : Nat} {o p : Obj} (h : w.heap[g]? = some o) : (w.alloc p).heap[g]? = some o := (Below.heap_alloc _ _ _ (blk_lt h)).trans h
/-- No layout, and an error. -/
def NewBad (c i : Int) (w : World) (e : Ending) (w' : World) : Prop := ∃ v, e = .returned (.tuple #[.agg Z0, v]) ∧ AtF w w' c i v ∧ Below w.heap.size w w'
/-- What is wrong with a width. -/
def badCode (x : Int) : Int := if x < 1 ∨ 32 < x then 5 else 4
set_option maxRecDepth 100000 in
set_option maxHeartbeats 4000000 in
theorem new_bad (A : Option Addr) (n cap : Nat) (ws s : Nat → Int) (w : World) (hR : RowI w A n ws) (j : Nat) (hj : j < n) (hS : Steps j s) (hw : ∀ k, k < j → s (k + 1) = s k + ws k) (hs : 0 ≤ s j ∧ s j ≤ 64) (hjj : j ≤ 64)
    (hb : ws j < 1 ∨ 32 < ws j ∨ 64 < s j + ws j) : Calls Tryd.prog 8 #[.slice A n cap] w (NewBad (badCode (ws j)) j w) := by
  have hzero := zero70
  have HR := Lib.hid hR
  have HS := Lib.hid hS
  have HW := Lib.hid hw
  have HBD := Lib.hid hb
  clear hR hS hw hb
  go_enter Tryd.func8, Tryd.ntmps8
  go_wp2_with fail
  have hb0 : ((w.alloc (Obj.cells Z0 28)).alloc (Obj.cells Z0 28)).heap[w.heap.size]? = some (.cells Z0 28 (0, 0)) := (Below.heap_alloc _ _ _ (by simp)).trans (heap_alloc_new w _)
  have hb1 : ((w.alloc (Obj.cells Z0 28)).alloc (Obj.cells Z0 28)).heap[w.heap.size + 1]? = some (.cells Z0 28 (0, 0)) := by
    have := heap_alloc_new (w.alloc (Obj.cells Z0 28)) (Obj.cells Z0 28)
    rw [World.size_alloc] at this
    exact this
  go_loopg [5, 10] n (fun gk x i wr => ∃ (k : Nat) (cs : Array Value), gk = n - k ∧ k ≤ j ∧ i = .int .i64 k ∧ x = .int .i64 (s k) ∧ wr.heap[w.heap.size]? = some (.cells Z0 28 (0, 0)) ∧ wr.heap[w.heap.size + 1]? = some (.cells cs 28 (0, 0)) ∧ Lay cs k (fun i => if i ≤ k then s i else 0) ∧ Below w.heap.size w wr)
  case atStart => exact ⟨0, Z0, by omega, Nat.zero_le _, rfl, by rw [HS.out.1], hb0, hb1, lay_zero s HS.out.1, by go_grown⟩
  case round =>
    clear hb0 hb1
    obtain ⟨k, cs, rfl, hk, rfl, rfl, hH0, hH1, hL, hB⟩ := hrel
    have HH0 := Lib.hid hH0
    have HH1 := Lib.hid hH1
    have HL := Lib.hid hL
    have hl1 := blk_lt hH1
    have hlt : k < n := by omega
    obtain ⟨g, off, rfl, hg, hz, z0, z1⟩ := HR.out k hlt
    have hz' : wr.cell? ⟨g, off + k, none⟩ = some (.int .i64 (ws k)) := (hB.cell (p := ⟨g, off + k, none⟩) hg).trans hz
    by_cases hkj : k < j
    · obtain ⟨s0, s1, s2, s3⟩ := HS.out.2.2 k hkj
      have hwk := HW.out k hkj
      have q1 : 1 ≤ ws k := by omega
      have q2 : ws k ≤ 32 := by omega
      have q3 : s k + ws k ≤ 64 := by omega
      have q4 : s k ≤ 64 := by omega
      have HWK := Lib.hid hwk
      clear hz hwk s1 s2 s3
      have d0 : wr.cell? ⟨w.heap.size + 1, 0, none⟩ = some (.int .i64 k) := by rw [cell_of_row _ _ _ _ _ _ hH1]; exact hL.cnt
      have d1 : wr.cell? ⟨w.heap.size + 1, 1 + (k + 1), none⟩ = some (.int .u8 0) := by rw [cell_of_row _ _ _ _ _ _ hH1, hL.at_ (k + 1) (by omega), if_neg (by omega)]
      have f0 : wr.frozen? ⟨w.heap.size + 1, 0, none⟩ = false := blk_frozen hH1 0
      have f1 : wr.frozen? ⟨w.heap.size + 1, 1 + (k + 1), none⟩ = false := blk_frozen hH1 _
      have e2 : (0 : Int) ≤ (k : Int) + 1 := by omega
      have e3 : (k : Int) + 1 < 65 := by omega
      have e4 : ((k : Int) + 1).toNat = k + 1 := by omega
      have e6 : IntKind.u8.wrap (s k + ws k) = s k + ws k := IntWalk.u8_in _ (by omega)
      clear hH0 hH1 hL
      go_wp2_with fail
      go_roundg (n - (k + 1))
      case measure => omega
      case rel =>
        refine ⟨k + 1, _, rfl, by omega, by go_num, by rw [HWK.out], blk_far (blk_far HH0.out (by show w.heap.size ≠ w.heap.size + 1; omega) _) (by show w.heap.size ≠ w.heap.size + 1; omega) _, blk_set (blk_set HH1.out 0 _) (1 + (k + 1)) _, ?_, (hB.setCell (by show w.heap.size ≤ w.heap.size + 1; omega) _).setCell (by show w.heap.size ≤ w.heap.size + 1; omega) _⟩
        have hls := lay_step (s := s) HL.out (by omega)
        rw [HWK.out] at hls
        exact hls
    · obtain rfl : k = j := by omega
      have hs1 := hB.size
      have HSZ := Lib.hid (lay_info (lay_zero s HS.out.1))
      have HZ1 := Lib.hid (lay_zero s HS.out.1).one
      have hbuild : ∀ W : World, (Sem.run Tryd.prog (zeroValue 28) W) = .ok (.agg Z0) W := zero70
      clear hz hH0 hH1 hL
      have hls := blk_lt HH0.out
      have fin : ∀ w1, Below wr.heap.size wr w1 → w1.heap[w.heap.size]? = some (.cells Z0 28 (0, 0)) := fun w1 hb => (hb.block w.heap.size hls).trans HH0.out
      have FIN := Lib.hid fin
      clear fin
      by_cases c1 : ws k < 1
      · go_wp2_with fail
        refine (at_code _ _ _).mono ?_
        rintro e w1 ⟨v, rfl, hF, hb1⟩
        have hB1 := Below.step hB hb1
        have HAT := Lib.hid hF
        have HS1 := Lib.hid hs1
        clear hF
        have HF1 := Lib.hid (FIN.out w1 hb1)
        clear hb1
        go_wp2_with (refine wpList_store_row rfl 28 _ _ rfl w.heap.size Z0 rfl rfl 28 Z0 HF1.out HSZ.out rfl HZ1.out ?_)
        refine bodyPost_ret (results_cell_tmp rfl _ _ w.heap.size 28 _ (0, 0) _ rfl (heap_setRow _ _ _ _ _ HF1.out) Tryd.underlying28 rfl HSZ.out) rfl ?_
        exact ⟨_, rfl, by rw [show badCode (ws k) = 5 from if_pos (.inl c1)]; exact (HAT.out.setRow hls _).low HS1.out, below_setRow hB1 (Nat.le_refl _) _⟩
      · have c1' : 1 ≤ ws k := by omega
        by_cases c2 : 32 < ws k
        · go_wp2_with fail
          refine (at_code _ _ _).mono ?_
          rintro e w1 ⟨v, rfl, hF, hb1⟩
          have hB1 := Below.step hB hb1
          have HAT := Lib.hid hF
          have HS1 := Lib.hid hs1
          clear hF
          have HF1 := Lib.hid (FIN.out w1 hb1)
          clear hb1
          go_wp2_with (refine wpList_store_row rfl 28 _ _ rfl w.heap.size Z0 rfl rfl 28 Z0 HF1.out HSZ.out rfl HZ1.out ?_)
          refine bodyPost_ret (results_cell_tmp rfl _ _ w.heap.size 28 _ (0, 0) _ rfl (heap_setRow _ _ _ _ _ HF1.out) Tryd.underlying28 rfl HSZ.out) rfl ?_
          exact ⟨_, rfl, by rw [show badCode (ws k) = 5 from if_pos (.inr c2)]; exact (HAT.out.setRow hls _).low HS1.out, below_setRow hB1 (Nat.le_refl _) _⟩
        · have c2' : ws k ≤ 32 := by omega
          have c3 : 64 < s k + ws k := by have := HBD.out; omega
          go_wp2_with fail
          refine (at_code _ _ _).mono ?_
          rintro e w1 ⟨v, rfl, hF, hb1⟩
          have hB1 := Below.step hB hb1
          have HAT := Lib.hid hF
          have HS1 := Lib.hid hs1
          clear hF
          have HF1 := Lib.hid (FIN.out w1 hb1)
          clear hb1
          go_wp2_with (refine wpList_store_row rfl 28 _ _ rfl w.heap.size Z0 rfl rfl 28 Z0 HF1.out HSZ.out rfl HZ1.out ?_)
          refine bodyPost_ret (results_cell_tmp rfl _ _ w.heap.size 28 _ (0, 0) _ rfl (heap_setRow _ _ _ _ _ HF1.out) Tryd.underlying28 rfl HSZ.out) rfl ?_
          exact ⟨_, rfl, by rw [show badCode (ws k) = 4 from if_neg (by omega)]; exact (HAT.out.setRow hls _).low HS1.out, below_setRow hB1 (Nat.le_refl _) _⟩
def pre_ (ws : Nat → Int) : Nat → Int
  | 0 => 0
  | k + 1 => pre_ ws k + ws k
theorem steps_cut {n : Nat} {s : Nat → Int} (h : Steps n s) : Steps n (fun k => if k ≤ n then s k else 0) := by
  refine ⟨by simp [h.1], h.2.1, fun k hk => ?_⟩
  have := h.2.2 k hk
  dsimp only
  rw [if_pos (by omega), if_pos (by omega)]
  exact this
theorem pre_steps (ws : Nat → Int) (j : Nat) (h : ∀ k, k < j → 1 ≤ ws k ∧ ws k ≤ 32 ∧ pre_ ws k + ws k ≤ 64) : Steps j (pre_ ws) ∧ (j : Int) ≤ pre_ ws j ∧ pre_ ws j ≤ 64 := by
  have hm : ∀ k, k ≤ j → (k : Int) ≤ pre_ ws k ∧ pre_ ws k ≤ 64 := by
    intro k
    induction k with
    | zero => intro _; exact ⟨Int.le_refl _, by show (0 : Int) ≤ 64; decide⟩
    | succ k ih =>
      intro hk
      have h1 := ih (by omega)
      have h2 := h k (by omega)
      show ((k + 1 : Nat) : Int) ≤ pre_ ws k + ws k ∧ pre_ ws k + ws k ≤ 64
      omega
  have hj := hm j (Nat.le_refl _)
  refine ⟨⟨rfl, by omega, fun k hk => ?_⟩, hj.1, hj.2⟩
  have h1 := hm k (by omega)
  have h2 := h k hk
  have e : pre_ ws (k + 1) = pre_ ws k + ws k := rfl
  rw [e]
  omega
theorem least (P : Nat → Prop) [DecidablePred P] (n : Nat) (h : ¬ ∀ k, k < n → P k) : ∃ j, j < n ∧ (∀ k, k < j → P k) ∧ ¬ P j := by
  induction n with
  | zero => exact absurd (fun k hk => absurd hk (Nat.not_lt_zero k)) h
  | succ n ih =>
    by_cases h1 : ∀ k, k < n → P k
    · refine ⟨n, Nat.lt_succ_self n, h1, fun hp => h fun k hk => ?_⟩
      rcases Nat.lt_or_ge k n with h2 | h2
      · exact h1 k h2
      · rw [show k = n by omega]; exact hp
    · obtain ⟨j, hj, h2, h3⟩ := ih h1
      exact ⟨j, by omega, h2, h3⟩
theorem row_below {A : Option Addr} {m : Nat} {z : Nat → Int} {w w' : World} (h : RowI w A m z) (hb : Below w.heap.size w w') : RowI w' A m z := fun k hk => by
  obtain ⟨g, off, e, hg, hc, h1, h2⟩ := h k hk
  exact ⟨g, off, e, Nat.lt_of_lt_of_le hg hb.size, (hb.cell (p := ⟨g, off + k, none⟩) hg).trans hc, h1, h2⟩
theorem parts_eq (A B a b P : Nat) (hA : A < P) (hB : B < P) (h : A + a * P = B + b * P) : A = B ∧ a = b := by
  have hP : 0 < P := by omega
  have e1 : (A + a * P) % P = A := by rw [Nat.add_mul_mod_self_right, Nat.mod_eq_of_lt hA]
  have e2 : (B + b * P) % P = B := by rw [Nat.add_mul_mod_self_right, Nat.mod_eq_of_lt hB]
  have h1 : A = B := by rw [← e1, ← e2, h]
  refine ⟨h1, ?_⟩
  subst h1
  have h2 : a * P = b * P := by omega
  exact Nat.eq_of_mul_eq_mul_right hP h2
theorem word_inj {n : Nat} {s z y : Nat → Int} (hS : Steps n s) (hz : ∀ k, k < n → 0 ≤ z k ∧ z k < 2 ^ (s (k + 1) - s k).toNat) (hy : ∀ k, k < n → 0 ≤ y k ∧ y k < 2 ^ (s (k + 1) - s k).toNat) :
    ∀ m, m ≤ n → word s z m = word s y m → ∀ k, k < m → z k = y k := by
  intro m
  induction m with
  | zero => intro _ _ k hk; exact absurd hk (Nat.not_lt_zero k)
  | succ m ih =>
    intro hm h k hk
    have l1 := word_lt hS hz m (by omega)
    have l2 := word_lt hS hy m (by omega)
    obtain ⟨e1, e2⟩ := parts_eq _ _ _ _ _ l1 l2 h
    rcases Nat.lt_or_ge k m with h2 | h2
    · exact ih (by omega) e1 k h2
    · have e : k = m := by omega
      subst e
      have p1 := (hz k (by omega)).1
      have p2 := (hy k (by omega)).1
      omega
end Go.Proofs.YtjkojbaphdlhlaaDoor.Fp

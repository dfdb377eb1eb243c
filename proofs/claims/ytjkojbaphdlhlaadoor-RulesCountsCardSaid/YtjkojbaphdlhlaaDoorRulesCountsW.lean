/-
  The walk of RulesCounts.
-/
import Derived.Test.YtjkojbaphdlhlaaDoorRows
import Derived.Test.YtjkojbaphdlhlaaDoorKit
import Derived.Test.YtjkojbaphdlhlaaDoorApp
import Derived.Test.YtjkojbaphdlhlaaDoorQuiet
import Derived.Test.YtjkojbaphdlhlaaDoorAsF
import Derived.Test.YtjkojbaphdlhlaaDoorAsC
import Derived.Test.YtjkojbaphdlhlaaDoorAsD
import Derived.Test.YtjkojbaphdlhlaaDoorAsE
import Derived.Test.YtjkojbaphdlhlaaDoorAsG
import Derived.Test.YtjkojbaphdlhlaaDoorWraps
import Derived.Test.YtjkojbaphdlhlaaDoorAwake1
import Derived.Test.YtjkojbaphdlhlaaDoorIsC
import Derived.Test.YtjkojbaphdlhlaaDoorRcPl
import Derived.Test.YtjkojbaphdlhlaaDoorRcPlaces
import Derived.Test.YtjkojbaphdlhlaaDoorRcRules
import Derived.Test.YtjkojbaphdlhlaaDoorRcCheck
import Derived.Test.YtjkojbaphdlhlaaDoorRcAts
import Derived.Test.YtjkojbaphdlhlaaDoorRcN
import Derived.Test.YtjkojbaphdlhlaaDoorRcC
import Derived.Test.YtjkojbaphdlhlaaDoorRcBad
import Derived.WalkKit
import Derived.ProofKit
import Derived.OpenShut
import Derived.ShutString
import Derived.Below
import Derived.Outline
import Derived.WalkLawsBesides
import Derived.WalkSpells
import Derived.Handy
import Derived.Deep.QuietTactic
import Derived.BigQuiet
import Derived.RegionTactic
import Derived.ChangeAlike
import Derived.Lib.Hide
import Derived.Laws.Rows
import Derived.Laws.Tables
import Derived.Laws.CopyOwn
import Derived.Laws.MakeOwn
import Derived.Laws.Entries
import Derived.Laws.OwnMore
import Derived.Deep.WholeRow
import Derived.Deep.LoopGhost
import Derived.Deep.AppendLies
import Derived.Deep.Draws
import Derived.Maps.AppendAt
import Derived.OwnWalk
import Derived.Deep.RegionHeld3
import Derived.Deep.Cut
import Derived.Deep.CutRange
import Derived.Deep.DeepCutAuto
import Derived.Deep.CutBlock
import Derived.Lib.SliceRun
import Derived.IntWalk
namespace Go.Proofs.YtjkojbaphdlhlaaDoor.Rc
open Go.ChangeShapes Go.WideShapes Go.ChangeAt Go.RowKit

/-- The number of a part's cell, among the first m of them. -/
def fnd (c x y m : Int) : Int := if 0 ≤ x ∧ 0 ≤ y ∧ y < c ∧ x * c + y < m then x * c + y else -1
theorem fnd_zero (c x y : Int) (hc : 1 ≤ c ∧ c ≤ 4) : fnd c x y 0 = -1 := by
  unfold fnd
  obtain ⟨c1, c2⟩ := hc
  rcases (show c = 1 ∨ c = 2 ∨ c = 3 ∨ c = 4 by omega) with rfl | rfl | rfl | rfl <;> split <;> omega
theorem fnd_hit (c x y k i m : Int) (hc : 1 ≤ c ∧ c ≤ 4) (hm : m = k * c + i) (k0 : 0 ≤ k) (i0 : 0 ≤ i) (i1 : i < c) (hx : k = x) (hy : i = y) : fnd c x y (m + 1) = m := by
  unfold fnd
  obtain ⟨c1, c2⟩ := hc
  subst hx hy hm
  rcases (show c = 1 ∨ c = 2 ∨ c = 3 ∨ c = 4 by omega) with rfl | rfl | rfl | rfl <;> split <;> omega
theorem fnd_miss (c x y k i m : Int) (hc : 1 ≤ c ∧ c ≤ 4) (hm : m = k * c + i) (k0 : 0 ≤ k) (i0 : 0 ≤ i) (i1 : i < c) (h : ¬ (k = x ∧ i = y)) : fnd c x y (m + 1) = fnd c x y m := by
  unfold fnd
  obtain ⟨c1, c2⟩ := hc
  subst hm
  rcases (show c = 1 ∨ c = 2 ∨ c = 3 ∨ c = 4 by omega) with rfl | rfl | rfl | rfl <;> split <;> split <;> omega
theorem fnd_yes (c x y p : Int) (hc : 1 ≤ c ∧ c ≤ 4) (h : 0 ≤ x ∧ x < p ∧ 0 ≤ y ∧ y < c) : fnd c x y (p * c) = x * c + y := by
  unfold fnd
  obtain ⟨c1, c2⟩ := hc
  rcases (show c = 1 ∨ c = 2 ∨ c = 3 ∨ c = 4 by omega) with rfl | rfl | rfl | rfl <;> split <;> omega
theorem fnd_no (c x y p : Int) (hc : 1 ≤ c ∧ c ≤ 4) (h : ¬ (0 ≤ x ∧ x < p ∧ 0 ≤ y ∧ y < c)) : fnd c x y (p * c) = -1 := by
  unfold fnd
  obtain ⟨c1, c2⟩ := hc
  rcases (show c = 1 ∨ c = 2 ∨ c = 3 ∨ c = 4 by omega) with rfl | rfl | rfl | rfl <;> split <;> omega
theorem div_is (c k i m : Int) (hc : 1 ≤ c ∧ c ≤ 4) (hm : m = k * c + i) (i0 : 0 ≤ i) (i1 : i < c) : m / c = k ∧ m % c = i := by
  obtain ⟨c1, c2⟩ := hc
  subst hm
  rcases (show c = 1 ∨ c = 2 ∨ c = 3 ∨ c = 4 by omega) with rfl | rfl | rfl | rfl <;> omega
theorem in_is (c k i m p : Int) (hc : 1 ≤ c ∧ c ≤ 4) (hm : m = k * c + i) (k0 : 0 ≤ k) (k1 : k < p) (i0 : 0 ≤ i) (i1 : i < c) : 0 ≤ m ∧ m < p * c := by
  obtain ⟨c1, c2⟩ := hc
  subst hm
  rcases (show c = 1 ∨ c = 2 ∨ c = 3 ∨ c = 4 by omega) with rfl | rfl | rfl | rfl <;> omega
theorem cell_fnd (p c n b r f g x y : Int) (W : World) (hp : 1 ≤ p ∧ p ≤ 6) (hc : 1 ≤ c ∧ c ≤ 4) : Calls Tryd.prog 45 #[.agg #[.int .i64 p, .int .i64 c, .int .i64 n, .int .i64 b, .int .i64 r, .int .i64 f, .int .i64 g], .int .i64 x, .int .i64 y] W fun e w' => e = .returned (.int .i64 (fnd c x y (p * c))) ∧ Below W.heap.size W w' := by
  by_cases h : 0 ≤ x ∧ x < p ∧ 0 ≤ y ∧ y < c
  · rw [fnd_yes c x y p hc h]
    exact cell_in p c n b r f g x y W h.1 h.2.1 h.2.2.1 h.2.2.2 (by have := mulx (x := x) (b := c) (m := 6) ⟨h.1, by omega⟩ hc; omega) hc.2
  · rw [fnd_no c x y p hc h]
    exact cell_out p c n b r f g x y W h
theorem shard_fnd (p c n b r f g x y : Int) (W : World) (hn : 1 ≤ n ∧ n ≤ 3) (hb : 1 ≤ b ∧ b ≤ 4) : Calls Tryd.prog 46 #[.agg #[.int .i64 p, .int .i64 c, .int .i64 n, .int .i64 b, .int .i64 r, .int .i64 f, .int .i64 g], .int .i64 x, .int .i64 y] W fun e w' => e = .returned (.int .i64 (fnd b x y (n * b))) ∧ Below W.heap.size W w' := by
  by_cases h : 0 ≤ x ∧ x < n ∧ 0 ≤ y ∧ y < b
  · rw [fnd_yes b x y n hb h]
    exact shard_in p c n b r f g x y W h.1 h.2.1 h.2.2.1 h.2.2.2 (by have := mulx (x := x) (b := b) (m := 6) ⟨h.1, by omega⟩ hb; omega) hb.2
  · rw [fnd_no b x y n hb h]
    exact shard_out p c n b r f g x y W h
set_option maxRecDepth 100000 in
set_option maxHeartbeats 32000000 in
theorem good (p c n b f g A S T : Nat) (r x y : Int) (w : World) (hp : 1 ≤ p ∧ p ≤ 6) (hc : 1 ≤ c ∧ c ≤ 4) (hn : 1 ≤ n ∧ n ≤ 3) (hb : 1 ≤ b ∧ b ≤ 4) (hr : 0 ≤ r ∧ r ≤ 4) (hf : 1 ≤ f ∧ f ≤ 4) (hg : 1 ≤ g ∧ g ≤ 15) (hA : A = p * c) (hS : S = n * b) (hT : T = A * (2 + g * (f + 1))) :
    Calls Tryd.prog 5 #[.agg #[.int .i64 (p : Int), .int .i64 (c : Int), .int .i64 (n : Int), .int .i64 (b : Int), .int .i64 r, .int .i64 (f : Int), .int .i64 (g : Int)], .int .i64 x, .int .i64 y] w fun e w' => e = .returned (.bool true) ∧ Below w.heap.size w w' := by
  have Hp : 1 ≤ (p : Int) ∧ (p : Int) ≤ 6 := by omega
  have Hc : 1 ≤ (c : Int) ∧ (c : Int) ≤ 4 := by omega
  have Hn : 1 ≤ (n : Int) ∧ (n : Int) ≤ 3 := by omega
  have Hb : 1 ≤ (b : Int) ∧ (b : Int) ≤ 4 := by omega
  have Hf : 1 ≤ (f : Int) ∧ (f : Int) ≤ 4 := by omega
  have Hg : 1 ≤ (g : Int) ∧ (g : Int) ≤ 15 := by omega
  have mA := mul24 Hp Hc
  have mS := mul12 Hn Hb
  have eA : (p : Int) * (c : Int) = (A : Int) := by rw [hA]; rfl
  have eS : (n : Int) * (b : Int) = (S : Int) := by rw [hS]; rfl
  have bA : 1 ≤ A ∧ A ≤ 24 := by omega
  have bS : 1 ≤ S ∧ S ≤ 12 := by omega
  have kG : g * (f + 1) ≤ 75 := by
    have h1 : g * (f + 1) ≤ 15 * 5 := Nat.mul_le_mul hg.2 (by omega)
    omega
  have kT : T ≤ 1848 := by
    have h1 : A * (2 + g * (f + 1)) ≤ 24 * 77 := Nat.mul_le_mul bA.2 (by omega)
    omega
  have eT : (p : Int) * (c : Int) * (2 + (g : Int) * ((f : Int) + 1)) = (T : Int) := by rw [eA, hT]; push_cast; rfl
  have eix : ix A g (f + 1) A 0 0 = T := by rw [hT]; unfold ix; rw [Nat.add_zero, Nat.add_zero, Nat.mul_assoc, Nat.mul_add A, Nat.mul_comm A 2]
  have kT0 : 0 < T := by
    have h1 : 1 * 2 ≤ A * (2 + g * (f + 1)) := Nat.mul_le_mul bA.1 (by omega)
    omega
  have HN := Lib.hid (fun W => rnew_ok p c n b r f g W Hp Hc Hn Hb hr Hf Hg)
  have HC := Lib.hid (fun W => check_ok p c n b r f g W Hp Hc Hn Hb hr Hf Hg)
  have HPL := Lib.hid (show ∀ W, Calls Tryd.prog 39 #[.agg #[.int .i64 (p : Int), .int .i64 (c : Int), .int .i64 (n : Int), .int .i64 (b : Int), .int .i64 r, .int .i64 (f : Int), .int .i64 (g : Int)]] W (fun e w' => ∃ B cap, e = .returned (.slice (some ⟨B, 0, none⟩) T cap) ∧ Below W.heap.size W w') from fun W => (places_is p c f g A n b r W hp hc hf hg hA bA.2).mono fun e w' ⟨v, he, hO, hbel⟩ => by
    rw [eix] at hO
    obtain ⟨B, cap, hv, _, _⟩ := World.ownsRow.form hO kT0
    exact ⟨B, cap, by rw [he, hv], hbel⟩)
  have HAL := Lib.hid (show ∀ W, Calls Tryd.prog 35 #[.agg #[.int .i64 (p : Int), .int .i64 (c : Int), .int .i64 (n : Int), .int .i64 (b : Int), .int .i64 r, .int .i64 (f : Int), .int .i64 (g : Int)]] W (fun e w' => e = .returned (.int .i64 (A : Int)) ∧ Below W.heap.size W w') from fun W => by have h := all_i p c n b r f g W mA; rw [eA] at h; exact h)
  have HSH := Lib.hid (show ∀ W, Calls Tryd.prog 36 #[.agg #[.int .i64 (p : Int), .int .i64 (c : Int), .int .i64 (n : Int), .int .i64 (b : Int), .int .i64 r, .int .i64 (f : Int), .int .i64 (g : Int)]] W (fun e w' => e = .returned (.int .i64 (S : Int)) ∧ Below W.heap.size W w') from fun W => by have h := shards_i p c n b r f g W mS; rw [eS] at h; exact h)
  have HAG := Lib.hid (show ∀ W, Calls Tryd.prog 37 #[.agg #[.int .i64 (p : Int), .int .i64 (c : Int), .int .i64 (n : Int), .int .i64 (b : Int), .int .i64 r, .int .i64 (f : Int), .int .i64 (g : Int)]] W (fun e w' => e = .returned (.int .i64 ((p : Int) + 2 * (S : Int))) ∧ Below W.heap.size W w') from fun W => by have h := agents_i p c n b r f g W mS Hp; rw [eS] at h; exact h)
  have kI : 0 ≤ (g : Int) * ((f : Int) + 1) ∧ (g : Int) * ((f : Int) + 1) ≤ 75 := by
    have h1 : (g : Int) * ((f : Int) + 1) = ((g * (f + 1) : Nat) : Int) := by push_cast; rfl
    omega
  have HWO := Lib.hid (show ∀ W, Calls Tryd.prog 38 #[.agg #[.int .i64 (p : Int), .int .i64 (c : Int), .int .i64 (n : Int), .int .i64 (b : Int), .int .i64 r, .int .i64 (f : Int), .int .i64 (g : Int)]] W (fun e w' => e = .returned (.int .i64 (T : Int)) ∧ Below W.heap.size W w') from fun W => by have h := words_i p c n b r f g W mA Hf kI (by rw [eT]; omega); rw [eT] at h; exact h)
  have HOI := Lib.hid (show ∀ W (k i m : Nat), m = k * c + i → k < p → i < c → Calls Tryd.prog 40 #[.agg #[.int .i64 (p : Int), .int .i64 (c : Int), .int .i64 (n : Int), .int .i64 (b : Int), .int .i64 r, .int .i64 (f : Int), .int .i64 (g : Int)], .int .i64 (m : Int)] W (fun e w' => e = .returned (.int .i64 (k : Int)) ∧ Below W.heap.size W w') from fun W k i m hm hk hi => by
    have hm' : (m : Int) = (k : Int) * (c : Int) + (i : Int) := by rw [hm]; push_cast; rfl
    have hd := div_is (c : Int) k i m Hc hm' (by omega) (by omega)
    have hin := in_is (c : Int) k i m (p : Int) Hc hm' (by omega) (by omega) (by omega) (by omega)
    have h := owner_in p c n b r f g m W mA (by omega) hin.1 hin.2
    rw [hd.1] at h
    exact h)
  have HWI := Lib.hid (show ∀ W (k i m : Nat), m = k * c + i → k < p → i < c → Calls Tryd.prog 41 #[.agg #[.int .i64 (p : Int), .int .i64 (c : Int), .int .i64 (n : Int), .int .i64 (b : Int), .int .i64 r, .int .i64 (f : Int), .int .i64 (g : Int)], .int .i64 (m : Int)] W (fun e w' => e = .returned (.int .i64 (i : Int)) ∧ Below W.heap.size W w') from fun W k i m hm hk hi => by
    have hm' : (m : Int) = (k : Int) * (c : Int) + (i : Int) := by rw [hm]; push_cast; rfl
    have hd := div_is (c : Int) k i m Hc hm' (by omega) (by omega)
    have hin := in_is (c : Int) k i m (p : Int) Hc hm' (by omega) (by omega) (by omega) (by omega)
    have h := own_in p c n b r f g m W mA (by omega) hin.1 hin.2
    rw [hd.2] at h
    exact h)
  have HPI := Lib.hid (show ∀ W (k i m : Nat), m = k * b + i → k < n → i < b → Calls Tryd.prog 42 #[.agg #[.int .i64 (p : Int), .int .i64 (c : Int), .int .i64 (n : Int), .int .i64 (b : Int), .int .i64 r, .int .i64 (f : Int), .int .i64 (g : Int)], .int .i64 (m : Int)] W (fun e w' => e = .returned (.tuple #[.int .i64 (k : Int), .int .i64 (i : Int)]) ∧ Below W.heap.size W w') from fun W k i m hm hk hi => by
    have hm' : (m : Int) = (k : Int) * (b : Int) + (i : Int) := by rw [hm]; push_cast; rfl
    have hd := div_is (b : Int) k i m Hb hm' (by omega) (by omega)
    have hin := in_is (b : Int) k i m (n : Int) Hb hm' (by omega) (by omega) (by omega) (by omega)
    have h := parted_in p c n b r f g m W mS (by omega) Hp hin.1 hin.2
    rw [hd.1, hd.2] at h
    exact h)
  have HSI := Lib.hid (show ∀ W (k i m : Nat), m = k * b + i → k < n → i < b → Calls Tryd.prog 43 #[.agg #[.int .i64 (p : Int), .int .i64 (c : Int), .int .i64 (n : Int), .int .i64 (b : Int), .int .i64 r, .int .i64 (f : Int), .int .i64 (g : Int)], .int .i64 (m : Int)] W (fun e w' => e = .returned (.int .i64 ((p : Int) + (m : Int))) ∧ Below W.heap.size W w') from fun W k i m hm hk hi => by
    have hm' : (m : Int) = (k : Int) * (b : Int) + (i : Int) := by rw [hm]; push_cast; rfl
    have hd := div_is (b : Int) k i m Hb hm' (by omega) (by omega)
    have hin := in_is (b : Int) k i m (n : Int) Hb hm' (by omega) (by omega) (by omega) (by omega)
    have h := sweeper_in p c n b r f g m W mS (by omega) Hp hin.1 hin.2
    clear hd
    exact h)
  have HRI := Lib.hid (show ∀ W (k i m : Nat), m = k * b + i → k < n → i < b → Calls Tryd.prog 44 #[.agg #[.int .i64 (p : Int), .int .i64 (c : Int), .int .i64 (n : Int), .int .i64 (b : Int), .int .i64 r, .int .i64 (f : Int), .int .i64 (g : Int)], .int .i64 (m : Int)] W (fun e w' => e = .returned (.int .i64 ((p : Int) + (S : Int) + (m : Int))) ∧ Below W.heap.size W w') from fun W k i m hm hk hi => by
    have hm' : (m : Int) = (k : Int) * (b : Int) + (i : Int) := by rw [hm]; push_cast; rfl
    have hd := div_is (b : Int) k i m Hb hm' (by omega) (by omega)
    have hin := in_is (b : Int) k i m (n : Int) Hb hm' (by omega) (by omega) (by omega) (by omega)
    have h := reaper_in p c n b r f g m W mS (by omega) Hp hin.1 hin.2
    rw [eS] at h
    exact h)
  have HOO := Lib.hid (show (x < 0 ∨ (A : Int) ≤ x) → ∀ W, Calls Tryd.prog 40 #[.agg #[.int .i64 (p : Int), .int .i64 (c : Int), .int .i64 (n : Int), .int .i64 (b : Int), .int .i64 r, .int .i64 (f : Int), .int .i64 (g : Int)], .int .i64 x] W (fun e w' => e = .returned (.int .i64 (-1)) ∧ Below W.heap.size W w') from fun hx W => owner_out p c n b r f g x W mA (by omega) (by rw [eA]; exact hx))
  have HWX := Lib.hid (show (x < 0 ∨ (A : Int) ≤ x) → ∀ W, Calls Tryd.prog 41 #[.agg #[.int .i64 (p : Int), .int .i64 (c : Int), .int .i64 (n : Int), .int .i64 (b : Int), .int .i64 r, .int .i64 (f : Int), .int .i64 (g : Int)], .int .i64 x] W (fun e w' => e = .returned (.int .i64 (-1)) ∧ Below W.heap.size W w') from fun hx W => own_out p c n b r f g x W mA (by omega) (by rw [eA]; exact hx))
  have HPO := Lib.hid (show (x < 0 ∨ (S : Int) ≤ x) → ∀ W, Calls Tryd.prog 42 #[.agg #[.int .i64 (p : Int), .int .i64 (c : Int), .int .i64 (n : Int), .int .i64 (b : Int), .int .i64 r, .int .i64 (f : Int), .int .i64 (g : Int)], .int .i64 x] W (fun e w' => e = .returned (.tuple #[.int .i64 (-1), .int .i64 (-1)]) ∧ Below W.heap.size W w') from fun hx W => parted_out p c n b r f g x W mS (by omega) Hp (by rw [eS]; exact hx))
  have HSO := Lib.hid (show (x < 0 ∨ (S : Int) ≤ x) → ∀ W, Calls Tryd.prog 43 #[.agg #[.int .i64 (p : Int), .int .i64 (c : Int), .int .i64 (n : Int), .int .i64 (b : Int), .int .i64 r, .int .i64 (f : Int), .int .i64 (g : Int)], .int .i64 x] W (fun e w' => e = .returned (.int .i64 (-1)) ∧ Below W.heap.size W w') from fun hx W => sweeper_out p c n b r f g x W mS (by omega) Hp (by rw [eS]; exact hx))
  have HRO := Lib.hid (show (x < 0 ∨ (S : Int) ≤ x) → ∀ W, Calls Tryd.prog 44 #[.agg #[.int .i64 (p : Int), .int .i64 (c : Int), .int .i64 (n : Int), .int .i64 (b : Int), .int .i64 r, .int .i64 (f : Int), .int .i64 (g : Int)], .int .i64 x] W (fun e w' => e = .returned (.int .i64 (-1)) ∧ Below W.heap.size W w') from fun hx W => reaper_out p c n b r f g x W mS (by omega) Hp (by rw [eS]; exact hx))
  have HCE := Lib.hid (show ∀ W, Calls Tryd.prog 45 #[.agg #[.int .i64 (p : Int), .int .i64 (c : Int), .int .i64 (n : Int), .int .i64 (b : Int), .int .i64 r, .int .i64 (f : Int), .int .i64 (g : Int)], .int .i64 x, .int .i64 y] W (fun e w' => e = .returned (.int .i64 (fnd c x y A)) ∧ Below W.heap.size W w') from fun W => by have h := cell_fnd p c n b r f g x y W Hp Hc; rw [eA] at h; exact h)
  have HSD := Lib.hid (show ∀ W, Calls Tryd.prog 46 #[.agg #[.int .i64 (p : Int), .int .i64 (c : Int), .int .i64 (n : Int), .int .i64 (b : Int), .int .i64 r, .int .i64 (f : Int), .int .i64 (g : Int)], .int .i64 x, .int .i64 y] W (fun e w' => e = .returned (.int .i64 (fnd b x y S)) ∧ Below W.heap.size W w') from fun W => by have h := shard_fnd p c n b r f g x y W Hn Hb; rw [eS] at h; exact h)
  have HHC := Lib.hid (show ∀ k i m : Nat, m = k * c + i → i < c → (k : Int) = x → (i : Int) = y → fnd c x y ((m + 1 : Nat) : Int) = (m : Int) from fun k i m hm hi hx hy => by
    have h := fnd_hit (c : Int) x y k i m Hc (by rw [hm]; push_cast; rfl) (by omega) (by omega) (by omega) hx hy
    push_cast; exact h)
  have HMC := Lib.hid (show ∀ k i m : Nat, m = k * c + i → i < c → ¬ ((k : Int) = x ∧ (i : Int) = y) → fnd c x y ((m + 1 : Nat) : Int) = fnd c x y (m : Int) from fun k i m hm hi h => by
    have h := fnd_miss (c : Int) x y k i m Hc (by rw [hm]; push_cast; rfl) (by omega) (by omega) (by omega) h
    push_cast; exact h)
  have HZC := Lib.hid (fnd_zero (c : Int) x y Hc)
  have HHB := Lib.hid (show ∀ k i m : Nat, m = k * b + i → i < b → (k : Int) = x → (i : Int) = y → fnd b x y ((m + 1 : Nat) : Int) = (m : Int) from fun k i m hm hi hx hy => by
    have h := fnd_hit (b : Int) x y k i m Hb (by rw [hm]; push_cast; rfl) (by omega) (by omega) (by omega) hx hy
    push_cast; exact h)
  have HMB := Lib.hid (show ∀ k i m : Nat, m = k * b + i → i < b → ¬ ((k : Int) = x ∧ (i : Int) = y) → fnd b x y ((m + 1 : Nat) : Int) = fnd b x y (m : Int) from fun k i m hm hi h => by
    have h := fnd_miss (b : Int) x y k i m Hb (by rw [hm]; push_cast; rfl) (by omega) (by omega) (by omega) h
    push_cast; exact h)
  have HZB := Lib.hid (fnd_zero (b : Int) x y Hb)
  have HAE := Lib.hid hA
  have HSE := Lib.hid hS
  have p1 := Hp.2
  have a1 : (A : Int) ≤ 24 := by omega
  have s1 : (S : Int) ≤ 12 := by omega
  have a0 : (0 : Int) ≤ (A : Int) := by omega
  have s0 : (0 : Int) ≤ (S : Int) := by omega
  have t0 : (0 : Int) ≤ (T : Int) := by omega
  have t1 : (T : Int) ≤ 1848 := by omega
  have EA := Lib.hid eA
  have ES := Lib.hid eS
  have HPP := Lib.hid (And.intro hp (And.intro hc (And.intro hn (And.intro hb (And.intro bA bS)))))
  clear hA hS hT mA mS eT eA eS eix kG kT kT0 kI Hp Hc Hn Hb Hf Hg hp hc hn hb hr hf hg bA bS
  have bx0 := Blk7.new w p c n b r f g 70
  go_enter Tryd.func5, Tryd.ntmps5
  go_wp2_with fail
  refine (HN.out _).mono ?_
  rintro e w1 ⟨rfl, hb1⟩
  have bX1 := bx0.below hb1
  have hB1 : Below w.heap.size w w1 := Below.step (by go_grown) hb1
  clear hb1 bx0
  obtain ⟨⟨d0, d1, d2, d3, d4, d5, d6⟩, hl⟩ := id bX1
  have bR1 := Blk7.new w1 p c n b r f g 72
  go_wp2_with fail
  refine (HC.out _).mono ?_
  rintro e w2 ⟨rfl, hb2⟩
  have hA1 : Below w1.heap.size w1 (w1.alloc (.cells #[.int .i64 (p : Int), .int .i64 (c : Int), .int .i64 (n : Int), .int .i64 (b : Int), .int .i64 r, .int .i64 (f : Int), .int .i64 (g : Int)] 72)) := by go_grown
  have hC2 : Below w.heap.size w w2 := Below.step (Below.step hB1 hA1) hb2
  have bX2 := (bX1.below hA1).below hb2
  have bR2 := bR1.below hb2
  clear hb2 hA1 bX1 bR1 d0 d1 d2 d3 d4 d5 d6 hl hB1
  have bX := Blk7.drew bX2
  have bR := Blk7.drew bR2
  have hC : Below w.heap.size w w2.drew := Below.drew hC2
  have hS := And.intro bX.1 bR.1
  clear bX2 bR2 hC2
  have EA1 := EA.out
  have ES1 := ES.out
  have WA : IntKind.i64.wrap (A : Int) = (A : Int) := IntWalk.i64_in _ (by omega)
  have WS : IntKind.i64.wrap (S : Int) = (S : Int) := IntWalk.i64_in _ (by omega)
  have W2S : IntKind.i64.wrap (2 * (S : Int)) = 2 * (S : Int) := IntWalk.i64_in _ (by omega)
  have WP : IntKind.i64.wrap ((p : Int) + 2 * (S : Int)) = (p : Int) + 2 * (S : Int) := IntWalk.i64_in _ (by omega)
  have NA : ((A : Int) != (A : Int)) = false := by simp
  have NS : ((S : Int) != (S : Int)) = false := by simp
  have NP : (((p : Int) + 2 * (S : Int)) != ((p : Int) + 2 * (S : Int))) = false := by simp
  have NT : ((T : Int) != (T : Int)) = false := by simp
  go_wp2_with fail
  go_region_held3 (fun w' => (w'.cell? ⟨w.heap.size, 0, none⟩ = some (.int .i64 (p : Int)) ∧ w'.cell? ⟨w.heap.size, 1, none⟩ = some (.int .i64 (c : Int)) ∧ w'.cell? ⟨w.heap.size, 2, none⟩ = some (.int .i64 (n : Int)) ∧ w'.cell? ⟨w.heap.size, 3, none⟩ = some (.int .i64 (b : Int)) ∧ w'.cell? ⟨w.heap.size, 4, none⟩ = some (.int .i64 r) ∧ w'.cell? ⟨w.heap.size, 5, none⟩ = some (.int .i64 (f : Int)) ∧ w'.cell? ⟨w.heap.size, 6, none⟩ = some (.int .i64 (g : Int))) ∧ (w'.cell? ⟨w1.heap.size, 0, none⟩ = some (.int .i64 (p : Int)) ∧ w'.cell? ⟨w1.heap.size, 1, none⟩ = some (.int .i64 (c : Int)) ∧ w'.cell? ⟨w1.heap.size, 2, none⟩ = some (.int .i64 (n : Int)) ∧ w'.cell? ⟨w1.heap.size, 3, none⟩ = some (.int .i64 (b : Int)) ∧ w'.cell? ⟨w1.heap.size, 4, none⟩ = some (.int .i64 r) ∧ w'.cell? ⟨w1.heap.size, 5, none⟩ = some (.int .i64 (f : Int)) ∧ w'.cell? ⟨w1.heap.size, 6, none⟩ = some (.int .i64 (g : Int)))) (first | with_reducible exact hS | fail) (first | (go_at_call 35; (with_reducible refine (HAL.out _).mono ?_); rintro e wy ⟨rfl, hby⟩; have bX := Blk7.below bX hby; have bR := Blk7.below bR hby; have hC := Below.step hC hby; have hS := And.intro bX.1 bR.1; clear hby) | (go_at_call 36; (with_reducible refine (HSH.out _).mono ?_); rintro e wy ⟨rfl, hby⟩; have bX := Blk7.below bX hby; have bR := Blk7.below bR hby; have hC := Below.step hC hby; have hS := And.intro bX.1 bR.1; clear hby) | (go_at_call 37; (with_reducible refine (HAG.out _).mono ?_); rintro e wy ⟨rfl, hby⟩; have bX := Blk7.below bX hby; have bR := Blk7.below bR hby; have hC := Below.step hC hby; have hS := And.intro bX.1 bR.1; clear hby) | (go_at_call 38; (with_reducible refine (HWO.out _).mono ?_); rintro e wy ⟨rfl, hby⟩; have bX := Blk7.below bX hby; have bR := Blk7.below bR hby; have hC := Below.step hC hby; have hS := And.intro bX.1 bR.1; clear hby) | (go_at_call 39; (with_reducible refine (HPL.out _).mono ?_); rintro e wy ⟨BP, capP, rfl, hby⟩; have bX := Blk7.below bX hby; have bR := Blk7.below bR hby; have hC := Below.step hC hby; have hS := And.intro bX.1 bR.1; clear hby) | fail)
  clear hS WA WS W2S WP NA NS NP NT EA1 ES1
  have bX := bX
  obtain ⟨⟨d0, d1, d2, d3, d4, d5, d6⟩, hl⟩ := id bX
  obtain ⟨⟨c0, c1, c2, c3, c4, c5, c6⟩, hl1⟩ := id bR
  go_wp2_with fail
  clear d0 d1 d2 d3 d4 d5 d6 hl c0 c1 c2 c3 c4 c5 c6 hl1
  go_loopw [13, 15, 116] (fun cv nv i wr => ∃ k m : Nat, k ≤ p ∧ i = .int .i64 (k : Int) ∧ nv = .int .i64 (m : Int) ∧ cv = .int .i64 (fnd c x y m) ∧ Hid (m = k * c) ∧ Below w.heap.size w wr ∧ Blk7 w.heap.size p c n b r f g wr ∧ Blk7 w1.heap.size p c n b r f g wr) (fun _ _ i _ => p + 1 - (intOf i).toNat)
  case atStart => exact ⟨0, 0, Nat.zero_le _, rfl, rfl, by show _ = Value.int IntKind.i64 (fnd c x y 0); rw [HZC.out], Lib.hid (Nat.zero_mul _).symm, hC, bX, bR⟩
  case round =>
    clear bX bR hC
    obtain ⟨k, m, hk, rfl, rfl, rfl, hm, hB, bX, bR⟩ := hrel
    by_cases hkp : k < p
    · have k0 : (0 : Int) ≤ (k : Int) := by omega
      have k1 : (k : Int) < (p : Int) := by omega
      have k2 : (p : Int) ≤ 6 := by have := HPP.out; omega
      obtain ⟨wo, hwo⟩ : ∃ wo : World, wo = wr := ⟨_, rfl⟩
      subst hwo
      obtain ⟨⟨d0, d1, d2, d3, d4, d5, d6⟩, hl⟩ := id bX
      obtain ⟨⟨c0, c1, c2, c3, c4, c5, c6⟩, hl1⟩ := id bR
      go_wp2_with fail
      clear d0 d1 d2 d3 d4 d5 d6 hl c0 c1 c2 c3 c4 c5 c6 hl1
      go_loopw [13, 15, 121] (fun cv nv i wr => ∃ i' m' : Nat, i' ≤ c ∧ i = .int .i64 (i' : Int) ∧ nv = .int .i64 (m' : Int) ∧ cv = .int .i64 (fnd c x y m') ∧ Hid (m' = k * c + i') ∧ Below w.heap.size w wr ∧ Blk7 w.heap.size p c n b r f g wr ∧ Blk7 w1.heap.size p c n b r f g wr) (fun _ _ i _ => c + 1 - (intOf i).toNat)
      case atStart => exact ⟨0, m, Nat.zero_le _, rfl, rfl, rfl, Lib.hid (by rw [hm.out]; rfl), hB, bX, bR⟩
      case round =>
        clear hB bX bR
        obtain ⟨i', m', hi', rfl, rfl, rfl, hm', hB, bX, bR⟩ := hrel
        by_cases hic : i' < c
        · have j0 : (0 : Int) ≤ (i' : Int) := by omega
          have j1 : (i' : Int) < (c : Int) := by omega
          have j2 : (c : Int) ≤ 4 := by have := HPP.out; omega
          have n0 : (0 : Int) ≤ (m' : Int) := by omega
          have n1 : (m' : Int) ≤ 24 := by
            have h1 := hm'.out
            have h2 : k * c ≤ 5 * 4 := Nat.mul_le_mul (by have := HPP.out; omega) (by have := HPP.out; omega)
            omega
          have HMM := Lib.hid (HMC.out k i' m' hm'.out hic)
          have HHH := Lib.hid (HHC.out k i' m' hm'.out hic)
          by_cases hx : (k : Int) = x
          · have e1 : ((k : Int) == x) = true := by rw [hx]; simp
            by_cases hy : (i' : Int) = y
            · have e2 : ((i' : Int) == y) = true := by rw [hy]; simp
              have HV := Lib.hid (HHH.out hx hy)
              clear hx hy
              have HO1 := Lib.hid (fun W => HOI.out W k i' m' hm'.out hkp hic)
              have HW1 := Lib.hid (fun W => HWI.out W k i' m' hm'.out hkp hic)
              have hkk : ((k : Int) != (k : Int)) = false := by simp
              have hii : ((i' : Int) != (i' : Int)) = false := by simp
              obtain ⟨⟨d0, d1, d2, d3, d4, d5, d6⟩, hl⟩ := id bX
              obtain ⟨⟨c0, c1, c2, c3, c4, c5, c6⟩, hl1⟩ := id bR
              go_wp2_with fail
              refine (HO1.out _).mono ?_
              rintro e w4 ⟨rfl, hby⟩
              have bX := Blk7.below bX hby
              have bR := Blk7.below bR hby
              have hB := Below.step hB hby
              clear hby
              clear d0 d1 d2 d3 d4 d5 d6 hl c0 c1 c2 c3 c4 c5 c6 hl1
              obtain ⟨⟨d0, d1, d2, d3, d4, d5, d6⟩, hl⟩ := id bX
              obtain ⟨⟨c0, c1, c2, c3, c4, c5, c6⟩, hl1⟩ := id bR
              go_wp2_with fail
              refine (HW1.out _).mono ?_
              rintro e w5 ⟨rfl, hby⟩
              have bX := Blk7.below bX hby
              have bR := Blk7.below bR hby
              have hB := Below.step hB hby
              clear hby
              clear d0 d1 d2 d3 d4 d5 d6 hl c0 c1 c2 c3 c4 c5 c6 hl1
              go_wp2_with fail
              go_roundw
              case rel => exact ⟨i' + 1, m' + 1, by omega, by go_num, by go_num, by rw [HV.out], Lib.hid (by rw [hm'.out]; omega), hB, bX, bR⟩
              case measure => simp [intOf]; omega
            · have e2 : ((i' : Int) == y) = false := by rw [beq_eq_false_iff_ne]; exact hy
              have HV := Lib.hid (HMM.out (fun h => hy h.2))
              clear hx hy
              have HO1 := Lib.hid (fun W => HOI.out W k i' m' hm'.out hkp hic)
              have HW1 := Lib.hid (fun W => HWI.out W k i' m' hm'.out hkp hic)
              have hkk : ((k : Int) != (k : Int)) = false := by simp
              have hii : ((i' : Int) != (i' : Int)) = false := by simp
              obtain ⟨⟨d0, d1, d2, d3, d4, d5, d6⟩, hl⟩ := id bX
              obtain ⟨⟨c0, c1, c2, c3, c4, c5, c6⟩, hl1⟩ := id bR
              go_wp2_with fail
              refine (HO1.out _).mono ?_
              rintro e w4 ⟨rfl, hby⟩
              have bX := Blk7.below bX hby
              have bR := Blk7.below bR hby
              have hB := Below.step hB hby
              clear hby
              clear d0 d1 d2 d3 d4 d5 d6 hl c0 c1 c2 c3 c4 c5 c6 hl1
              obtain ⟨⟨d0, d1, d2, d3, d4, d5, d6⟩, hl⟩ := id bX
              obtain ⟨⟨c0, c1, c2, c3, c4, c5, c6⟩, hl1⟩ := id bR
              go_wp2_with fail
              refine (HW1.out _).mono ?_
              rintro e w5 ⟨rfl, hby⟩
              have bX := Blk7.below bX hby
              have bR := Blk7.below bR hby
              have hB := Below.step hB hby
              clear hby
              clear d0 d1 d2 d3 d4 d5 d6 hl c0 c1 c2 c3 c4 c5 c6 hl1
              go_wp2_with fail
              go_roundw
              case rel => exact ⟨i' + 1, m' + 1, by omega, by go_num, by go_num, by rw [HV.out], Lib.hid (by rw [hm'.out]; omega), hB, bX, bR⟩
              case measure => simp [intOf]; omega
          · have e1 : ((k : Int) == x) = false := by rw [beq_eq_false_iff_ne]; exact hx
            have HV := Lib.hid (HMM.out (fun h => hx h.1))
            clear hx
            have HO1 := Lib.hid (fun W => HOI.out W k i' m' hm'.out hkp hic)
            have HW1 := Lib.hid (fun W => HWI.out W k i' m' hm'.out hkp hic)
            have hkk : ((k : Int) != (k : Int)) = false := by simp
            have hii : ((i' : Int) != (i' : Int)) = false := by simp
            obtain ⟨⟨d0, d1, d2, d3, d4, d5, d6⟩, hl⟩ := id bX
            obtain ⟨⟨c0, c1, c2, c3, c4, c5, c6⟩, hl1⟩ := id bR
            go_wp2_with fail
            refine (HO1.out _).mono ?_
            rintro e w4 ⟨rfl, hby⟩
            have bX := Blk7.below bX hby
            have bR := Blk7.below bR hby
            have hB := Below.step hB hby
            clear hby
            clear d0 d1 d2 d3 d4 d5 d6 hl c0 c1 c2 c3 c4 c5 c6 hl1
            obtain ⟨⟨d0, d1, d2, d3, d4, d5, d6⟩, hl⟩ := id bX
            obtain ⟨⟨c0, c1, c2, c3, c4, c5, c6⟩, hl1⟩ := id bR
            go_wp2_with fail
            refine (HW1.out _).mono ?_
            rintro e w5 ⟨rfl, hby⟩
            have bX := Blk7.below bX hby
            have bR := Blk7.below bR hby
            have hB := Below.step hB hby
            clear hby
            clear d0 d1 d2 d3 d4 d5 d6 hl c0 c1 c2 c3 c4 c5 c6 hl1
            go_wp2_with fail
            go_roundw
            case rel => exact ⟨i' + 1, m' + 1, by omega, by go_num, by go_num, by rw [HV.out], Lib.hid (by rw [hm'.out]; omega), hB, bX, bR⟩
            case measure => simp [intOf]; omega
        · obtain rfl : c = i' := by omega
          have j1 : decide ((c : Int) < (c : Int)) = false := decide_eq_false (by omega)
          go_wp2_with fail
          go_roundw
          case rel => exact ⟨k + 1, m', by omega, by go_num, rfl, rfl, Lib.hid (by rw [hm'.out, Nat.add_mul, Nat.one_mul]), hB, bX, bR⟩
          case measure => simp [intOf]; omega
    · obtain rfl : p = k := by omega
      have k1 : decide ((p : Int) < (p : Int)) = false := decide_eq_false (by omega)
      have hmA : A = m := by rw [HAE.out, hm.out]
      subst hmA
      obtain ⟨⟨d0, d1, d2, d3, d4, d5, d6⟩, hl⟩ := id bX
      obtain ⟨⟨c0, c1, c2, c3, c4, c5, c6⟩, hl1⟩ := id bR
      go_wp2_with fail
      clear d0 d1 d2 d3 d4 d5 d6 hl c0 c1 c2 c3 c4 c5 c6 hl1
      go_loopw [14, 15, 151] (fun cv nv i wr => ∃ k m : Nat, k ≤ n ∧ i = .int .i64 (k : Int) ∧ nv = .int .i64 (m : Int) ∧ cv = .int .i64 (fnd b x y m) ∧ Hid (m = k * b) ∧ Below w.heap.size w wr ∧ Blk7 w.heap.size p c n b r f g wr ∧ Blk7 w1.heap.size p c n b r f g wr) (fun _ _ i _ => n + 1 - (intOf i).toNat)
      case atStart => exact ⟨0, 0, Nat.zero_le _, rfl, rfl, by show _ = Value.int IntKind.i64 (fnd b x y 0); rw [HZB.out], Lib.hid (Nat.zero_mul _).symm, hB, bX, bR⟩
      case round =>
        clear bX bR hB
        obtain ⟨k, m, hk, rfl, rfl, rfl, hm, hB, bX, bR⟩ := hrel
        by_cases hkp : k < n
        · have k0 : (0 : Int) ≤ (k : Int) := by omega
          have k1 : (k : Int) < (n : Int) := by omega
          have k2 : (n : Int) ≤ 6 := by have := HPP.out; omega
          obtain ⟨wo, hwo⟩ : ∃ wo : World, wo = wr := ⟨_, rfl⟩
          subst hwo
          obtain ⟨⟨d0, d1, d2, d3, d4, d5, d6⟩, hl⟩ := id bX
          obtain ⟨⟨c0, c1, c2, c3, c4, c5, c6⟩, hl1⟩ := id bR
          go_wp2_with fail
          clear d0 d1 d2 d3 d4 d5 d6 hl c0 c1 c2 c3 c4 c5 c6 hl1
          go_loopw [14, 15, 156] (fun cv nv i wr => ∃ i' m' : Nat, i' ≤ b ∧ i = .int .i64 (i' : Int) ∧ nv = .int .i64 (m' : Int) ∧ cv = .int .i64 (fnd b x y m') ∧ Hid (m' = k * b + i') ∧ Below w.heap.size w wr ∧ Blk7 w.heap.size p c n b r f g wr ∧ Blk7 w1.heap.size p c n b r f g wr) (fun _ _ i _ => b + 1 - (intOf i).toNat)
          case atStart => exact ⟨0, m, Nat.zero_le _, rfl, rfl, rfl, Lib.hid (by rw [hm.out]; rfl), hB, bX, bR⟩
          case round =>
            clear hB bX bR
            obtain ⟨i', m', hi', rfl, rfl, rfl, hm', hB, bX, bR⟩ := hrel
            by_cases hic : i' < b
            · have j0 : (0 : Int) ≤ (i' : Int) := by omega
              have j1 : (i' : Int) < (b : Int) := by omega
              have j2 : (b : Int) ≤ 4 := by have := HPP.out; omega
              have n0 : (0 : Int) ≤ (m' : Int) := by omega
              have n1 : (m' : Int) ≤ 24 := by
                have h1 := hm'.out
                have h2 : k * b ≤ 5 * 4 := Nat.mul_le_mul (by have := HPP.out; omega) (by have := HPP.out; omega)
                omega
              have HMM := Lib.hid (HMB.out k i' m' hm'.out hic)
              have HHH := Lib.hid (HHB.out k i' m' hm'.out hic)
              by_cases hx : (k : Int) = x
              · have e1 : ((k : Int) == x) = true := by rw [hx]; simp
                by_cases hy : (i' : Int) = y
                · have e2 : ((i' : Int) == y) = true := by rw [hy]; simp
                  have HV := Lib.hid (HHH.out hx hy)
                  clear hx hy
                  have HP1 := Lib.hid (fun W => HPI.out W k i' m' hm'.out hkp hic)
                  have HS1 := Lib.hid (fun W => HSI.out W k i' m' hm'.out hkp hic)
                  have HR1 := Lib.hid (fun W => HRI.out W k i' m' hm'.out hkp hic)
                  have hkk : ((k : Int) != (k : Int)) = false := by simp
                  have hii : ((i' : Int) != (i' : Int)) = false := by simp
                  have hpm : (((p : Int) + (m' : Int)) != ((p : Int) + (m' : Int))) = false := by simp
                  have hpr : (((p : Int) + (S : Int) + (m' : Int)) != ((p : Int) + (S : Int) + (m' : Int))) = false := by simp
                  have W1 : IntKind.i64.wrap ((p : Int) + (m' : Int)) = (p : Int) + (m' : Int) := IntWalk.i64_in _ (by omega)
                  have W2 : IntKind.i64.wrap ((p : Int) + (S : Int)) = (p : Int) + (S : Int) := IntWalk.i64_in _ (by omega)
                  have W3 : IntKind.i64.wrap ((p : Int) + (S : Int) + (m' : Int)) = (p : Int) + (S : Int) + (m' : Int) := IntWalk.i64_in _ (by omega)
                  obtain ⟨⟨d0, d1, d2, d3, d4, d5, d6⟩, hl⟩ := id bX
                  obtain ⟨⟨c0, c1, c2, c3, c4, c5, c6⟩, hl1⟩ := id bR
                  go_wp2_with fail
                  refine (HP1.out _).mono ?_
                  rintro e w4 ⟨rfl, hby⟩
                  have bX := Blk7.below bX hby
                  have bR := Blk7.below bR hby
                  have hB := Below.step hB hby
                  clear hby
                  clear d0 d1 d2 d3 d4 d5 d6 hl c0 c1 c2 c3 c4 c5 c6 hl1
                  go_wp2_with fail
                  have bX := Blk7.drew bX
                  have bR := Blk7.drew bR
                  have hC := Below.drew hB
                  have hS := And.intro bX.1 bR.1
                  go_region_held3 (fun w' => (w'.cell? ⟨w.heap.size, 0, none⟩ = some (.int .i64 (p : Int)) ∧ w'.cell? ⟨w.heap.size, 1, none⟩ = some (.int .i64 (c : Int)) ∧ w'.cell? ⟨w.heap.size, 2, none⟩ = some (.int .i64 (n : Int)) ∧ w'.cell? ⟨w.heap.size, 3, none⟩ = some (.int .i64 (b : Int)) ∧ w'.cell? ⟨w.heap.size, 4, none⟩ = some (.int .i64 r) ∧ w'.cell? ⟨w.heap.size, 5, none⟩ = some (.int .i64 (f : Int)) ∧ w'.cell? ⟨w.heap.size, 6, none⟩ = some (.int .i64 (g : Int))) ∧ (w'.cell? ⟨w1.heap.size, 0, none⟩ = some (.int .i64 (p : Int)) ∧ w'.cell? ⟨w1.heap.size, 1, none⟩ = some (.int .i64 (c : Int)) ∧ w'.cell? ⟨w1.heap.size, 2, none⟩ = some (.int .i64 (n : Int)) ∧ w'.cell? ⟨w1.heap.size, 3, none⟩ = some (.int .i64 (b : Int)) ∧ w'.cell? ⟨w1.heap.size, 4, none⟩ = some (.int .i64 r) ∧ w'.cell? ⟨w1.heap.size, 5, none⟩ = some (.int .i64 (f : Int)) ∧ w'.cell? ⟨w1.heap.size, 6, none⟩ = some (.int .i64 (g : Int)))) (first | with_reducible exact hS | fail) (first | (go_at_call 43; (with_reducible refine (HS1.out _).mono ?_); rintro e wy ⟨rfl, hby⟩; have bX := Blk7.below bX hby; have bR := Blk7.below bR hby; have hC := Below.step hC hby; have hS := And.intro bX.1 bR.1; clear hby) | (go_at_call 44; (with_reducible refine (HR1.out _).mono ?_); rintro e wy ⟨rfl, hby⟩; have bX := Blk7.below bX hby; have bR := Blk7.below bR hby; have hC := Below.step hC hby; have hS := And.intro bX.1 bR.1; clear hby) | (go_at_call 36; (with_reducible refine (HSH.out _).mono ?_); rintro e wy ⟨rfl, hby⟩; have bX := Blk7.below bX hby; have bR := Blk7.below bR hby; have hC := Below.step hC hby; have hS := And.intro bX.1 bR.1; clear hby) | fail)
                  clear hS
                  go_wp2_with fail
                  go_roundw
                  case rel => exact ⟨i' + 1, m' + 1, by omega, by go_num, by go_num, by rw [HV.out], Lib.hid (by rw [hm'.out]; omega), hC, bX, bR⟩
                  case measure => simp [intOf]; omega
                · have e2 : ((i' : Int) == y) = false := by rw [beq_eq_false_iff_ne]; exact hy
                  have HV := Lib.hid (HMM.out (fun h => hy h.2))
                  clear hx hy
                  have HP1 := Lib.hid (fun W => HPI.out W k i' m' hm'.out hkp hic)
                  have HS1 := Lib.hid (fun W => HSI.out W k i' m' hm'.out hkp hic)
                  have HR1 := Lib.hid (fun W => HRI.out W k i' m' hm'.out hkp hic)
                  have hkk : ((k : Int) != (k : Int)) = false := by simp
                  have hii : ((i' : Int) != (i' : Int)) = false := by simp
                  have hpm : (((p : Int) + (m' : Int)) != ((p : Int) + (m' : Int))) = false := by simp
                  have hpr : (((p : Int) + (S : Int) + (m' : Int)) != ((p : Int) + (S : Int) + (m' : Int))) = false := by simp
                  have W1 : IntKind.i64.wrap ((p : Int) + (m' : Int)) = (p : Int) + (m' : Int) := IntWalk.i64_in _ (by omega)
                  have W2 : IntKind.i64.wrap ((p : Int) + (S : Int)) = (p : Int) + (S : Int) := IntWalk.i64_in _ (by omega)
                  have W3 : IntKind.i64.wrap ((p : Int) + (S : Int) + (m' : Int)) = (p : Int) + (S : Int) + (m' : Int) := IntWalk.i64_in _ (by omega)
                  obtain ⟨⟨d0, d1, d2, d3, d4, d5, d6⟩, hl⟩ := id bX
                  obtain ⟨⟨c0, c1, c2, c3, c4, c5, c6⟩, hl1⟩ := id bR
                  go_wp2_with fail
                  refine (HP1.out _).mono ?_
                  rintro e w4 ⟨rfl, hby⟩
                  have bX := Blk7.below bX hby
                  have bR := Blk7.below bR hby
                  have hB := Below.step hB hby
                  clear hby
                  clear d0 d1 d2 d3 d4 d5 d6 hl c0 c1 c2 c3 c4 c5 c6 hl1
                  go_wp2_with fail
                  have bX := Blk7.drew bX
                  have bR := Blk7.drew bR
                  have hC := Below.drew hB
                  have hS := And.intro bX.1 bR.1
                  go_region_held3 (fun w' => (w'.cell? ⟨w.heap.size, 0, none⟩ = some (.int .i64 (p : Int)) ∧ w'.cell? ⟨w.heap.size, 1, none⟩ = some (.int .i64 (c : Int)) ∧ w'.cell? ⟨w.heap.size, 2, none⟩ = some (.int .i64 (n : Int)) ∧ w'.cell? ⟨w.heap.size, 3, none⟩ = some (.int .i64 (b : Int)) ∧ w'.cell? ⟨w.heap.size, 4, none⟩ = some (.int .i64 r) ∧ w'.cell? ⟨w.heap.size, 5, none⟩ = some (.int .i64 (f : Int)) ∧ w'.cell? ⟨w.heap.size, 6, none⟩ = some (.int .i64 (g : Int))) ∧ (w'.cell? ⟨w1.heap.size, 0, none⟩ = some (.int .i64 (p : Int)) ∧ w'.cell? ⟨w1.heap.size, 1, none⟩ = some (.int .i64 (c : Int)) ∧ w'.cell? ⟨w1.heap.size, 2, none⟩ = some (.int .i64 (n : Int)) ∧ w'.cell? ⟨w1.heap.size, 3, none⟩ = some (.int .i64 (b : Int)) ∧ w'.cell? ⟨w1.heap.size, 4, none⟩ = some (.int .i64 r) ∧ w'.cell? ⟨w1.heap.size, 5, none⟩ = some (.int .i64 (f : Int)) ∧ w'.cell? ⟨w1.heap.size, 6, none⟩ = some (.int .i64 (g : Int)))) (first | with_reducible exact hS | fail) (first | (go_at_call 43; (with_reducible refine (HS1.out _).mono ?_); rintro e wy ⟨rfl, hby⟩; have bX := Blk7.below bX hby; have bR := Blk7.below bR hby; have hC := Below.step hC hby; have hS := And.intro bX.1 bR.1; clear hby) | (go_at_call 44; (with_reducible refine (HR1.out _).mono ?_); rintro e wy ⟨rfl, hby⟩; have bX := Blk7.below bX hby; have bR := Blk7.below bR hby; have hC := Below.step hC hby; have hS := And.intro bX.1 bR.1; clear hby) | (go_at_call 36; (with_reducible refine (HSH.out _).mono ?_); rintro e wy ⟨rfl, hby⟩; have bX := Blk7.below bX hby; have bR := Blk7.below bR hby; have hC := Below.step hC hby; have hS := And.intro bX.1 bR.1; clear hby) | fail)
                  clear hS
                  go_wp2_with fail
                  go_roundw
                  case rel => exact ⟨i' + 1, m' + 1, by omega, by go_num, by go_num, by rw [HV.out], Lib.hid (by rw [hm'.out]; omega), hC, bX, bR⟩
                  case measure => simp [intOf]; omega
              · have e1 : ((k : Int) == x) = false := by rw [beq_eq_false_iff_ne]; exact hx
                have HV := Lib.hid (HMM.out (fun h => hx h.1))
                clear hx
                have HP1 := Lib.hid (fun W => HPI.out W k i' m' hm'.out hkp hic)
                have HS1 := Lib.hid (fun W => HSI.out W k i' m' hm'.out hkp hic)
                have HR1 := Lib.hid (fun W => HRI.out W k i' m' hm'.out hkp hic)
                have hkk : ((k : Int) != (k : Int)) = false := by simp
                have hii : ((i' : Int) != (i' : Int)) = false := by simp
                have hpm : (((p : Int) + (m' : Int)) != ((p : Int) + (m' : Int))) = false := by simp
                have hpr : (((p : Int) + (S : Int) + (m' : Int)) != ((p : Int) + (S : Int) + (m' : Int))) = false := by simp
                have W1 : IntKind.i64.wrap ((p : Int) + (m' : Int)) = (p : Int) + (m' : Int) := IntWalk.i64_in _ (by omega)
                have W2 : IntKind.i64.wrap ((p : Int) + (S : Int)) = (p : Int) + (S : Int) := IntWalk.i64_in _ (by omega)
                have W3 : IntKind.i64.wrap ((p : Int) + (S : Int) + (m' : Int)) = (p : Int) + (S : Int) + (m' : Int) := IntWalk.i64_in _ (by omega)
                obtain ⟨⟨d0, d1, d2, d3, d4, d5, d6⟩, hl⟩ := id bX
                obtain ⟨⟨c0, c1, c2, c3, c4, c5, c6⟩, hl1⟩ := id bR
                go_wp2_with fail
                refine (HP1.out _).mono ?_
                rintro e w4 ⟨rfl, hby⟩
                have bX := Blk7.below bX hby
                have bR := Blk7.below bR hby
                have hB := Below.step hB hby
                clear hby
                clear d0 d1 d2 d3 d4 d5 d6 hl c0 c1 c2 c3 c4 c5 c6 hl1
                go_wp2_with fail
                have bX := Blk7.drew bX
                have bR := Blk7.drew bR
                have hC := Below.drew hB
                have hS := And.intro bX.1 bR.1
                go_region_held3 (fun w' => (w'.cell? ⟨w.heap.size, 0, none⟩ = some (.int .i64 (p : Int)) ∧ w'.cell? ⟨w.heap.size, 1, none⟩ = some (.int .i64 (c : Int)) ∧ w'.cell? ⟨w.heap.size, 2, none⟩ = some (.int .i64 (n : Int)) ∧ w'.cell? ⟨w.heap.size, 3, none⟩ = some (.int .i64 (b : Int)) ∧ w'.cell? ⟨w.heap.size, 4, none⟩ = some (.int .i64 r) ∧ w'.cell? ⟨w.heap.size, 5, none⟩ = some (.int .i64 (f : Int)) ∧ w'.cell? ⟨w.heap.size, 6, none⟩ = some (.int .i64 (g : Int))) ∧ (w'.cell? ⟨w1.heap.size, 0, none⟩ = some (.int .i64 (p : Int)) ∧ w'.cell? ⟨w1.heap.size, 1, none⟩ = some (.int .i64 (c : Int)) ∧ w'.cell? ⟨w1.heap.size, 2, none⟩ = some (.int .i64 (n : Int)) ∧ w'.cell? ⟨w1.heap.size, 3, none⟩ = some (.int .i64 (b : Int)) ∧ w'.cell? ⟨w1.heap.size, 4, none⟩ = some (.int .i64 r) ∧ w'.cell? ⟨w1.heap.size, 5, none⟩ = some (.int .i64 (f : Int)) ∧ w'.cell? ⟨w1.heap.size, 6, none⟩ = some (.int .i64 (g : Int)))) (first | with_reducible exact hS | fail) (first | (go_at_call 43; (with_reducible refine (HS1.out _).mono ?_); rintro e wy ⟨rfl, hby⟩; have bX := Blk7.below bX hby; have bR := Blk7.below bR hby; have hC := Below.step hC hby; have hS := And.intro bX.1 bR.1; clear hby) | (go_at_call 44; (with_reducible refine (HR1.out _).mono ?_); rintro e wy ⟨rfl, hby⟩; have bX := Blk7.below bX hby; have bR := Blk7.below bR hby; have hC := Below.step hC hby; have hS := And.intro bX.1 bR.1; clear hby) | (go_at_call 36; (with_reducible refine (HSH.out _).mono ?_); rintro e wy ⟨rfl, hby⟩; have bX := Blk7.below bX hby; have bR := Blk7.below bR hby; have hC := Below.step hC hby; have hS := And.intro bX.1 bR.1; clear hby) | fail)
                clear hS
                go_wp2_with fail
                go_roundw
                case rel => exact ⟨i' + 1, m' + 1, by omega, by go_num, by go_num, by rw [HV.out], Lib.hid (by rw [hm'.out]; omega), hC, bX, bR⟩
                case measure => simp [intOf]; omega
            · obtain rfl : b = i' := by omega
              have j1 : decide ((b : Int) < (b : Int)) = false := decide_eq_false (by omega)
              go_wp2_with fail
              go_roundw
              case rel => exact ⟨k + 1, m', by omega, by go_num, rfl, rfl, Lib.hid (by rw [hm'.out, Nat.add_mul, Nat.one_mul]), hB, bX, bR⟩
              case measure => simp [intOf]; omega
        · obtain rfl : n = k := by omega
          have k1 : decide ((n : Int) < (n : Int)) = false := decide_eq_false (by omega)
          have hmS : S = m := by rw [HSE.out, hm.out]
          subst hmS
          have hfc : (fnd c x y A == fnd c x y A) = true := by simp
          have hfb : (fnd b x y S == fnd b x y S) = true := by simp
          by_cases hx0 : x < 0
          · have dx : decide (x < 0) = true := decide_eq_true (by omega)
            have HOOx := Lib.hid (HOO.out (by omega))
            have HWXx := Lib.hid (HWX.out (by omega))
            have HPOx := Lib.hid (HPO.out (by omega))
            have HSOx := Lib.hid (HSO.out (by omega))
            have HROx := Lib.hid (HRO.out (by omega))
            obtain ⟨⟨d0, d1, d2, d3, d4, d5, d6⟩, hl⟩ := id bX
            obtain ⟨⟨c0, c1, c2, c3, c4, c5, c6⟩, hl1⟩ := id bR
            go_wp2_with fail
            refine (HOOx.out _).mono ?_
            rintro e v2 ⟨rfl, hby⟩
            have bX := Blk7.below bX hby
            have bR := Blk7.below bR hby
            have hB := Below.step hB hby
            clear hby
            clear d0 d1 d2 d3 d4 d5 d6 hl c0 c1 c2 c3 c4 c5 c6 hl1
            obtain ⟨⟨d0, d1, d2, d3, d4, d5, d6⟩, hl⟩ := id bX
            obtain ⟨⟨c0, c1, c2, c3, c4, c5, c6⟩, hl1⟩ := id bR
            go_wp2_with fail
            refine (HWXx.out _).mono ?_
            rintro e v3 ⟨rfl, hby⟩
            have bX := Blk7.below bX hby
            have bR := Blk7.below bR hby
            have hB := Below.step hB hby
            clear hby
            clear d0 d1 d2 d3 d4 d5 d6 hl c0 c1 c2 c3 c4 c5 c6 hl1
            obtain ⟨⟨d0, d1, d2, d3, d4, d5, d6⟩, hl⟩ := id bX
            obtain ⟨⟨c0, c1, c2, c3, c4, c5, c6⟩, hl1⟩ := id bR
            go_wp2_with fail
            refine (HPOx.out _).mono ?_
            rintro e v5 ⟨rfl, hby⟩
            have bX := Blk7.below bX hby
            have bR := Blk7.below bR hby
            have hB := Below.step hB hby
            clear hby
            clear d0 d1 d2 d3 d4 d5 d6 hl c0 c1 c2 c3 c4 c5 c6 hl1
            obtain ⟨⟨d0, d1, d2, d3, d4, d5, d6⟩, hl⟩ := id bX
            obtain ⟨⟨c0, c1, c2, c3, c4, c5, c6⟩, hl1⟩ := id bR
            go_wp2_with fail
            refine (HSOx.out _).mono ?_
            rintro e v6 ⟨rfl, hby⟩
            have bX := Blk7.below bX hby
            have bR := Blk7.below bR hby
            have hB := Below.step hB hby
            clear hby
            clear d0 d1 d2 d3 d4 d5 d6 hl c0 c1 c2 c3 c4 c5 c6 hl1
            obtain ⟨⟨d0, d1, d2, d3, d4, d5, d6⟩, hl⟩ := id bX
            obtain ⟨⟨c0, c1, c2, c3, c4, c5, c6⟩, hl1⟩ := id bR
            go_wp2_with fail
            refine (HROx.out _).mono ?_
            rintro e v7 ⟨rfl, hby⟩
            have bX := Blk7.below bX hby
            have bR := Blk7.below bR hby
            have hB := Below.step hB hby
            clear hby
            clear d0 d1 d2 d3 d4 d5 d6 hl c0 c1 c2 c3 c4 c5 c6 hl1
            obtain ⟨⟨d0, d1, d2, d3, d4, d5, d6⟩, hl⟩ := id bX
            obtain ⟨⟨c0, c1, c2, c3, c4, c5, c6⟩, hl1⟩ := id bR
            go_wp2_with fail
            refine (awake31 _).mono ?_
            rintro e v8 ⟨rfl, hby⟩
            have bX := Blk7.below bX hby
            have bR := Blk7.below bR hby
            have hB := Below.step hB hby
            clear hby
            clear d0 d1 d2 d3 d4 d5 d6 hl c0 c1 c2 c3 c4 c5 c6 hl1
            obtain ⟨⟨d0, d1, d2, d3, d4, d5, d6⟩, hl⟩ := id bX
            obtain ⟨⟨c0, c1, c2, c3, c4, c5, c6⟩, hl1⟩ := id bR
            go_wp2_with fail
            refine (HCE.out _).mono ?_
            rintro e v9 ⟨rfl, hby⟩
            have bX := Blk7.below bX hby
            have bR := Blk7.below bR hby
            have hB := Below.step hB hby
            clear hby
            clear d0 d1 d2 d3 d4 d5 d6 hl c0 c1 c2 c3 c4 c5 c6 hl1
            obtain ⟨⟨d0, d1, d2, d3, d4, d5, d6⟩, hl⟩ := id bX
            obtain ⟨⟨c0, c1, c2, c3, c4, c5, c6⟩, hl1⟩ := id bR
            go_wp2_with fail
            refine (HSD.out _).mono ?_
            rintro e va ⟨rfl, hby⟩
            have bX := Blk7.below bX hby
            have bR := Blk7.below bR hby
            have hB := Below.step hB hby
            clear hby
            clear d0 d1 d2 d3 d4 d5 d6 hl c0 c1 c2 c3 c4 c5 c6 hl1
            go_wp2
            go_ret
            exact ⟨rfl, hB⟩
          by_cases hxA : (A : Int) ≤ x
          · by_cases hxS : (S : Int) ≤ x
            · have dx : decide (x < 0) = false := decide_eq_false (by omega)
              have dA : decide ((A : Int) ≤ x) = true := decide_eq_true (by omega)
              have dS : decide ((S : Int) ≤ x) = true := decide_eq_true (by omega)
              have HOOx := Lib.hid (HOO.out (by omega))
              have HWXx := Lib.hid (HWX.out (by omega))
              have HPOx := Lib.hid (HPO.out (by omega))
              have HSOx := Lib.hid (HSO.out (by omega))
              have HROx := Lib.hid (HRO.out (by omega))
              obtain ⟨⟨d0, d1, d2, d3, d4, d5, d6⟩, hl⟩ := id bX
              obtain ⟨⟨c0, c1, c2, c3, c4, c5, c6⟩, hl1⟩ := id bR
              go_wp2_with fail
              refine (HAL.out _).mono ?_
              rintro e v1 ⟨rfl, hby⟩
              have bX := Blk7.below bX hby
              have bR := Blk7.below bR hby
              have hB := Below.step hB hby
              clear hby
              clear d0 d1 d2 d3 d4 d5 d6 hl c0 c1 c2 c3 c4 c5 c6 hl1
              obtain ⟨⟨d0, d1, d2, d3, d4, d5, d6⟩, hl⟩ := id bX
              obtain ⟨⟨c0, c1, c2, c3, c4, c5, c6⟩, hl1⟩ := id bR
              go_wp2_with fail
              refine (HOOx.out _).mono ?_
              rintro e v2 ⟨rfl, hby⟩
              have bX := Blk7.below bX hby
              have bR := Blk7.below bR hby
              have hB := Below.step hB hby
              clear hby
              clear d0 d1 d2 d3 d4 d5 d6 hl c0 c1 c2 c3 c4 c5 c6 hl1
              obtain ⟨⟨d0, d1, d2, d3, d4, d5, d6⟩, hl⟩ := id bX
              obtain ⟨⟨c0, c1, c2, c3, c4, c5, c6⟩, hl1⟩ := id bR
              go_wp2_with fail
              refine (HWXx.out _).mono ?_
              rintro e v3 ⟨rfl, hby⟩
              have bX := Blk7.below bX hby
              have bR := Blk7.below bR hby
              have hB := Below.step hB hby
              clear hby
              clear d0 d1 d2 d3 d4 d5 d6 hl c0 c1 c2 c3 c4 c5 c6 hl1
              obtain ⟨⟨d0, d1, d2, d3, d4, d5, d6⟩, hl⟩ := id bX
              obtain ⟨⟨c0, c1, c2, c3, c4, c5, c6⟩, hl1⟩ := id bR
              go_wp2_with fail
              refine (HSH.out _).mono ?_
              rintro e v4 ⟨rfl, hby⟩
              have bX := Blk7.below bX hby
              have bR := Blk7.below bR hby
              have hB := Below.step hB hby
              clear hby
              clear d0 d1 d2 d3 d4 d5 d6 hl c0 c1 c2 c3 c4 c5 c6 hl1
              obtain ⟨⟨d0, d1, d2, d3, d4, d5, d6⟩, hl⟩ := id bX
              obtain ⟨⟨c0, c1, c2, c3, c4, c5, c6⟩, hl1⟩ := id bR
              go_wp2_with fail
              refine (HPOx.out _).mono ?_
              rintro e v5 ⟨rfl, hby⟩
              have bX := Blk7.below bX hby
              have bR := Blk7.below bR hby
              have hB := Below.step hB hby
              clear hby
              clear d0 d1 d2 d3 d4 d5 d6 hl c0 c1 c2 c3 c4 c5 c6 hl1
              obtain ⟨⟨d0, d1, d2, d3, d4, d5, d6⟩, hl⟩ := id bX
              obtain ⟨⟨c0, c1, c2, c3, c4, c5, c6⟩, hl1⟩ := id bR
              go_wp2_with fail
              refine (HSOx.out _).mono ?_
              rintro e v6 ⟨rfl, hby⟩
              have bX := Blk7.below bX hby
              have bR := Blk7.below bR hby
              have hB := Below.step hB hby
              clear hby
              clear d0 d1 d2 d3 d4 d5 d6 hl c0 c1 c2 c3 c4 c5 c6 hl1
              obtain ⟨⟨d0, d1, d2, d3, d4, d5, d6⟩, hl⟩ := id bX
              obtain ⟨⟨c0, c1, c2, c3, c4, c5, c6⟩, hl1⟩ := id bR
              go_wp2_with fail
              refine (HROx.out _).mono ?_
              rintro e v7 ⟨rfl, hby⟩
              have bX := Blk7.below bX hby
              have bR := Blk7.below bR hby
              have hB := Below.step hB hby
              clear hby
              clear d0 d1 d2 d3 d4 d5 d6 hl c0 c1 c2 c3 c4 c5 c6 hl1
              obtain ⟨⟨d0, d1, d2, d3, d4, d5, d6⟩, hl⟩ := id bX
              obtain ⟨⟨c0, c1, c2, c3, c4, c5, c6⟩, hl1⟩ := id bR
              go_wp2_with fail
              refine (awake31 _).mono ?_
              rintro e v8 ⟨rfl, hby⟩
              have bX := Blk7.below bX hby
              have bR := Blk7.below bR hby
              have hB := Below.step hB hby
              clear hby
              clear d0 d1 d2 d3 d4 d5 d6 hl c0 c1 c2 c3 c4 c5 c6 hl1
              obtain ⟨⟨d0, d1, d2, d3, d4, d5, d6⟩, hl⟩ := id bX
              obtain ⟨⟨c0, c1, c2, c3, c4, c5, c6⟩, hl1⟩ := id bR
              go_wp2_with fail
              refine (HCE.out _).mono ?_
              rintro e v9 ⟨rfl, hby⟩
              have bX := Blk7.below bX hby
              have bR := Blk7.below bR hby
              have hB := Below.step hB hby
              clear hby
              clear d0 d1 d2 d3 d4 d5 d6 hl c0 c1 c2 c3 c4 c5 c6 hl1
              obtain ⟨⟨d0, d1, d2, d3, d4, d5, d6⟩, hl⟩ := id bX
              obtain ⟨⟨c0, c1, c2, c3, c4, c5, c6⟩, hl1⟩ := id bR
              go_wp2_with fail
              refine (HSD.out _).mono ?_
              rintro e va ⟨rfl, hby⟩
              have bX := Blk7.below bX hby
              have bR := Blk7.below bR hby
              have hB := Below.step hB hby
              clear hby
              clear d0 d1 d2 d3 d4 d5 d6 hl c0 c1 c2 c3 c4 c5 c6 hl1
              go_wp2
              go_ret
              exact ⟨rfl, hB⟩
            · have dx : decide (x < 0) = false := decide_eq_false (by omega)
              have dA : decide ((A : Int) ≤ x) = true := decide_eq_true (by omega)
              have dS : decide ((S : Int) ≤ x) = false := decide_eq_false (by omega)
              have HOOx := Lib.hid (HOO.out (by omega))
              have HWXx := Lib.hid (HWX.out (by omega))
              obtain ⟨⟨d0, d1, d2, d3, d4, d5, d6⟩, hl⟩ := id bX
              obtain ⟨⟨c0, c1, c2, c3, c4, c5, c6⟩, hl1⟩ := id bR
              go_wp2_with fail
              refine (HAL.out _).mono ?_
              rintro e v1 ⟨rfl, hby⟩
              have bX := Blk7.below bX hby
              have bR := Blk7.below bR hby
              have hB := Below.step hB hby
              clear hby
              clear d0 d1 d2 d3 d4 d5 d6 hl c0 c1 c2 c3 c4 c5 c6 hl1
              obtain ⟨⟨d0, d1, d2, d3, d4, d5, d6⟩, hl⟩ := id bX
              obtain ⟨⟨c0, c1, c2, c3, c4, c5, c6⟩, hl1⟩ := id bR
              go_wp2_with fail
              refine (HOOx.out _).mono ?_
              rintro e v2 ⟨rfl, hby⟩
              have bX := Blk7.below bX hby
              have bR := Blk7.below bR hby
              have hB := Below.step hB hby
              clear hby
              clear d0 d1 d2 d3 d4 d5 d6 hl c0 c1 c2 c3 c4 c5 c6 hl1
              obtain ⟨⟨d0, d1, d2, d3, d4, d5, d6⟩, hl⟩ := id bX
              obtain ⟨⟨c0, c1, c2, c3, c4, c5, c6⟩, hl1⟩ := id bR
              go_wp2_with fail
              refine (HWXx.out _).mono ?_
              rintro e v3 ⟨rfl, hby⟩
              have bX := Blk7.below bX hby
              have bR := Blk7.below bR hby
              have hB := Below.step hB hby
              clear hby
              clear d0 d1 d2 d3 d4 d5 d6 hl c0 c1 c2 c3 c4 c5 c6 hl1
              obtain ⟨⟨d0, d1, d2, d3, d4, d5, d6⟩, hl⟩ := id bX
              obtain ⟨⟨c0, c1, c2, c3, c4, c5, c6⟩, hl1⟩ := id bR
              go_wp2_with fail
              refine (HSH.out _).mono ?_
              rintro e v4 ⟨rfl, hby⟩
              have bX := Blk7.below bX hby
              have bR := Blk7.below bR hby
              have hB := Below.step hB hby
              clear hby
              clear d0 d1 d2 d3 d4 d5 d6 hl c0 c1 c2 c3 c4 c5 c6 hl1
              obtain ⟨⟨d0, d1, d2, d3, d4, d5, d6⟩, hl⟩ := id bX
              obtain ⟨⟨c0, c1, c2, c3, c4, c5, c6⟩, hl1⟩ := id bR
              go_wp2_with fail
              refine (awake31 _).mono ?_
              rintro e v8 ⟨rfl, hby⟩
              have bX := Blk7.below bX hby
              have bR := Blk7.below bR hby
              have hB := Below.step hB hby
              clear hby
              clear d0 d1 d2 d3 d4 d5 d6 hl c0 c1 c2 c3 c4 c5 c6 hl1
              obtain ⟨⟨d0, d1, d2, d3, d4, d5, d6⟩, hl⟩ := id bX
              obtain ⟨⟨c0, c1, c2, c3, c4, c5, c6⟩, hl1⟩ := id bR
              go_wp2_with fail
              refine (HCE.out _).mono ?_
              rintro e v9 ⟨rfl, hby⟩
              have bX := Blk7.below bX hby
              have bR := Blk7.below bR hby
              have hB := Below.step hB hby
              clear hby
              clear d0 d1 d2 d3 d4 d5 d6 hl c0 c1 c2 c3 c4 c5 c6 hl1
              obtain ⟨⟨d0, d1, d2, d3, d4, d5, d6⟩, hl⟩ := id bX
              obtain ⟨⟨c0, c1, c2, c3, c4, c5, c6⟩, hl1⟩ := id bR
              go_wp2_with fail
              refine (HSD.out _).mono ?_
              rintro e va ⟨rfl, hby⟩
              have bX := Blk7.below bX hby
              have bR := Blk7.below bR hby
              have hB := Below.step hB hby
              clear hby
              clear d0 d1 d2 d3 d4 d5 d6 hl c0 c1 c2 c3 c4 c5 c6 hl1
              go_wp2
              go_ret
              exact ⟨rfl, hB⟩
          · by_cases hxS : (S : Int) ≤ x
            · have dx : decide (x < 0) = false := decide_eq_false (by omega)
              have dA : decide ((A : Int) ≤ x) = false := decide_eq_false (by omega)
              have dS : decide ((S : Int) ≤ x) = true := decide_eq_true (by omega)
              have HPOx := Lib.hid (HPO.out (by omega))
              have HSOx := Lib.hid (HSO.out (by omega))
              have HROx := Lib.hid (HRO.out (by omega))
              obtain ⟨⟨d0, d1, d2, d3, d4, d5, d6⟩, hl⟩ := id bX
              obtain ⟨⟨c0, c1, c2, c3, c4, c5, c6⟩, hl1⟩ := id bR
              go_wp2_with fail
              refine (HAL.out _).mono ?_
              rintro e v1 ⟨rfl, hby⟩
              have bX := Blk7.below bX hby
              have bR := Blk7.below bR hby
              have hB := Below.step hB hby
              clear hby
              clear d0 d1 d2 d3 d4 d5 d6 hl c0 c1 c2 c3 c4 c5 c6 hl1
              obtain ⟨⟨d0, d1, d2, d3, d4, d5, d6⟩, hl⟩ := id bX
              obtain ⟨⟨c0, c1, c2, c3, c4, c5, c6⟩, hl1⟩ := id bR
              go_wp2_with fail
              refine (HSH.out _).mono ?_
              rintro e v4 ⟨rfl, hby⟩
              have bX := Blk7.below bX hby
              have bR := Blk7.below bR hby
              have hB := Below.step hB hby
              clear hby
              clear d0 d1 d2 d3 d4 d5 d6 hl c0 c1 c2 c3 c4 c5 c6 hl1
              obtain ⟨⟨d0, d1, d2, d3, d4, d5, d6⟩, hl⟩ := id bX
              obtain ⟨⟨c0, c1, c2, c3, c4, c5, c6⟩, hl1⟩ := id bR
              go_wp2_with fail
              refine (HPOx.out _).mono ?_
              rintro e v5 ⟨rfl, hby⟩
              have bX := Blk7.below bX hby
              have bR := Blk7.below bR hby
              have hB := Below.step hB hby
              clear hby
              clear d0 d1 d2 d3 d4 d5 d6 hl c0 c1 c2 c3 c4 c5 c6 hl1
              obtain ⟨⟨d0, d1, d2, d3, d4, d5, d6⟩, hl⟩ := id bX
              obtain ⟨⟨c0, c1, c2, c3, c4, c5, c6⟩, hl1⟩ := id bR
              go_wp2_with fail
              refine (HSOx.out _).mono ?_
              rintro e v6 ⟨rfl, hby⟩
              have bX := Blk7.below bX hby
              have bR := Blk7.below bR hby
              have hB := Below.step hB hby
              clear hby
              clear d0 d1 d2 d3 d4 d5 d6 hl c0 c1 c2 c3 c4 c5 c6 hl1
              obtain ⟨⟨d0, d1, d2, d3, d4, d5, d6⟩, hl⟩ := id bX
              obtain ⟨⟨c0, c1, c2, c3, c4, c5, c6⟩, hl1⟩ := id bR
              go_wp2_with fail
              refine (HROx.out _).mono ?_
              rintro e v7 ⟨rfl, hby⟩
              have bX := Blk7.below bX hby
              have bR := Blk7.below bR hby
              have hB := Below.step hB hby
              clear hby
              clear d0 d1 d2 d3 d4 d5 d6 hl c0 c1 c2 c3 c4 c5 c6 hl1
              obtain ⟨⟨d0, d1, d2, d3, d4, d5, d6⟩, hl⟩ := id bX
              obtain ⟨⟨c0, c1, c2, c3, c4, c5, c6⟩, hl1⟩ := id bR
              go_wp2_with fail
              refine (awake31 _).mono ?_
              rintro e v8 ⟨rfl, hby⟩
              have bX := Blk7.below bX hby
              have bR := Blk7.below bR hby
              have hB := Below.step hB hby
              clear hby
              clear d0 d1 d2 d3 d4 d5 d6 hl c0 c1 c2 c3 c4 c5 c6 hl1
              obtain ⟨⟨d0, d1, d2, d3, d4, d5, d6⟩, hl⟩ := id bX
              obtain ⟨⟨c0, c1, c2, c3, c4, c5, c6⟩, hl1⟩ := id bR
              go_wp2_with fail
              refine (HCE.out _).mono ?_
              rintro e v9 ⟨rfl, hby⟩
              have bX := Blk7.below bX hby
              have bR := Blk7.below bR hby
              have hB := Below.step hB hby
              clear hby
              clear d0 d1 d2 d3 d4 d5 d6 hl c0 c1 c2 c3 c4 c5 c6 hl1
              obtain ⟨⟨d0, d1, d2, d3, d4, d5, d6⟩, hl⟩ := id bX
              obtain ⟨⟨c0, c1, c2, c3, c4, c5, c6⟩, hl1⟩ := id bR
              go_wp2_with fail
              refine (HSD.out _).mono ?_
              rintro e va ⟨rfl, hby⟩
              have bX := Blk7.below bX hby
              have bR := Blk7.below bR hby
              have hB := Below.step hB hby
              clear hby
              clear d0 d1 d2 d3 d4 d5 d6 hl c0 c1 c2 c3 c4 c5 c6 hl1
              go_wp2
              go_ret
              exact ⟨rfl, hB⟩
            · have dx : decide (x < 0) = false := decide_eq_false (by omega)
              have dA : decide ((A : Int) ≤ x) = false := decide_eq_false (by omega)
              have dS : decide ((S : Int) ≤ x) = false := decide_eq_false (by omega)
              obtain ⟨⟨d0, d1, d2, d3, d4, d5, d6⟩, hl⟩ := id bX
              obtain ⟨⟨c0, c1, c2, c3, c4, c5, c6⟩, hl1⟩ := id bR
              go_wp2_with fail
              refine (HAL.out _).mono ?_
              rintro e v1 ⟨rfl, hby⟩
              have bX := Blk7.below bX hby
              have bR := Blk7.below bR hby
              have hB := Below.step hB hby
              clear hby
              clear d0 d1 d2 d3 d4 d5 d6 hl c0 c1 c2 c3 c4 c5 c6 hl1
              obtain ⟨⟨d0, d1, d2, d3, d4, d5, d6⟩, hl⟩ := id bX
              obtain ⟨⟨c0, c1, c2, c3, c4, c5, c6⟩, hl1⟩ := id bR
              go_wp2_with fail
              refine (HSH.out _).mono ?_
              rintro e v4 ⟨rfl, hby⟩
              have bX := Blk7.below bX hby
              have bR := Blk7.below bR hby
              have hB := Below.step hB hby
              clear hby
              clear d0 d1 d2 d3 d4 d5 d6 hl c0 c1 c2 c3 c4 c5 c6 hl1
              obtain ⟨⟨d0, d1, d2, d3, d4, d5, d6⟩, hl⟩ := id bX
              obtain ⟨⟨c0, c1, c2, c3, c4, c5, c6⟩, hl1⟩ := id bR
              go_wp2_with fail
              refine (awake31 _).mono ?_
              rintro e v8 ⟨rfl, hby⟩
              have bX := Blk7.below bX hby
              have bR := Blk7.below bR hby
              have hB := Below.step hB hby
              clear hby
              clear d0 d1 d2 d3 d4 d5 d6 hl c0 c1 c2 c3 c4 c5 c6 hl1
              obtain ⟨⟨d0, d1, d2, d3, d4, d5, d6⟩, hl⟩ := id bX
              obtain ⟨⟨c0, c1, c2, c3, c4, c5, c6⟩, hl1⟩ := id bR
              go_wp2_with fail
              refine (HCE.out _).mono ?_
              rintro e v9 ⟨rfl, hby⟩
              have bX := Blk7.below bX hby
              have bR := Blk7.below bR hby
              have hB := Below.step hB hby
              clear hby
              clear d0 d1 d2 d3 d4 d5 d6 hl c0 c1 c2 c3 c4 c5 c6 hl1
              obtain ⟨⟨d0, d1, d2, d3, d4, d5, d6⟩, hl⟩ := id bX
              obtain ⟨⟨c0, c1, c2, c3, c4, c5, c6⟩, hl1⟩ := id bR
              go_wp2_with fail
              refine (HSD.out _).mono ?_
              rintro e va ⟨rfl, hby⟩
              have bX := Blk7.below bX hby
              have bR := Blk7.below bR hby
              have hB := Below.step hB hby
              clear hby
              clear d0 d1 d2 d3 d4 d5 d6 hl c0 c1 c2 c3 c4 c5 c6 hl1
              go_wp2
              go_ret
              exact ⟨rfl, hB⟩

theorem walk (a0_0 a0_1 a0_2 a0_3 a0_4 a0_5 a0_6 a1 a2 : Int) (w : World) (hg : w.cell? ⟨0, 0, none⟩ = some (.iface 126 (.agg #[.pointer (some ⟨1, 30, none⟩)]))) (hgl : 0 < w.heap.size) :
    Calls Tryd.prog 5 #[.agg #[.int .i64 a0_0, .int .i64 a0_1, .int .i64 a0_2, .int .i64 a0_3, .int .i64 a0_4, .int .i64 a0_5, .int .i64 a0_6], .int .i64 a1, .int .i64 a2] w fun e w' => e = .returned (.bool true) ∧ Below w.heap.size w w' := by
  by_cases h : (1 ≤ a0_0 ∧ a0_0 ≤ 6) ∧ (1 ≤ a0_1 ∧ a0_1 ≤ 4) ∧ (1 ≤ a0_2 ∧ a0_2 ≤ 3) ∧ (1 ≤ a0_3 ∧ a0_3 ≤ 4) ∧ (0 ≤ a0_4 ∧ a0_4 ≤ 4) ∧ (1 ≤ a0_5 ∧ a0_5 ≤ 4) ∧ (1 ≤ a0_6 ∧ a0_6 ≤ 15)
  · obtain ⟨hp, hc, hn, hb, hr, hf, hg'⟩ := h
    obtain ⟨p, rfl⟩ : ∃ p : Nat, a0_0 = (p : Int) := ⟨a0_0.toNat, by omega⟩
    obtain ⟨c, rfl⟩ : ∃ p : Nat, a0_1 = (p : Int) := ⟨a0_1.toNat, by omega⟩
    obtain ⟨n, rfl⟩ : ∃ p : Nat, a0_2 = (p : Int) := ⟨a0_2.toNat, by omega⟩
    obtain ⟨b, rfl⟩ : ∃ p : Nat, a0_3 = (p : Int) := ⟨a0_3.toNat, by omega⟩
    obtain ⟨f, rfl⟩ : ∃ p : Nat, a0_5 = (p : Int) := ⟨a0_5.toNat, by omega⟩
    obtain ⟨g, rfl⟩ : ∃ p : Nat, a0_6 = (p : Int) := ⟨a0_6.toNat, by omega⟩
    exact good p c n b f g (p * c) (n * b) _ a0_4 a1 a2 w (by omega) (by omega) (by omega) (by omega) hr (by omega) (by omega) rfl rfl rfl
  · obtain ⟨i, s, hB, hi⟩ := bad_of _ _ _ _ _ _ _ h
    exact bad _ _ _ _ _ _ _ a1 a2 i s w hg hgl hB hi
end Go.Proofs.YtjkojbaphdlhlaaDoor.Rc

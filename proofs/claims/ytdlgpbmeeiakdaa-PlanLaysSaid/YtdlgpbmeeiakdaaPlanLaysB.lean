/-
  PlanLays: what is refused; rows of numbers.
-/
import Derived.Test.YtdlgpbmeeiakdaaRows
import Derived.Test.YtdlgpbmeeiakdaaKit
import Derived.Test.YtdlgpbmeeiakdaaApp
import Derived.Test.YtdlgpbmeeiakdaaEv
import Derived.Test.YtdlgpbmeeiakdaaEvP
import Derived.Test.YtdlgpbmeeiakdaaEvQ
import Derived.Test.YtdlgpbmeeiakdaaEvR
import Derived.Test.YtdlgpbmeeiakdaaQuiet
import Derived.Test.YtdlgpbmeeiakdaaRules
import Derived.Test.YtdlgpbmeeiakdaaCheck
import Derived.Test.YtdlgpbmeeiakdaaChk2
import Derived.Test.YtdlgpbmeeiakdaaPlA
import Derived.Test.YtdlgpbmeeiakdaaPlB
import Derived.Test.YtdlgpbmeeiakdaaPlC
import Derived.Test.YtdlgpbmeeiakdaaPlD
import Derived.Test.YtdlgpbmeeiakdaaPlE
import Derived.Test.YtdlgpbmeeiakdaaPlF
import Derived.Test.YtdlgpbmeeiakdaaPlI
import Derived.Test.YtdlgpbmeeiakdaaPlJ
import Derived.Test.YtdlgpbmeeiakdaaPlK
import Derived.WalkKit
import Derived.ProofKit
import Derived.OpenShut
import Derived.ShutString
import Derived.Below
import Derived.Outline
import Derived.WalkLawsBesides
import Derived.WalkSpells
import Derived.Handy
import Derived.Deep.QuietTactic
import Derived.BigQuiet
import Derived.RegionTactic
import Derived.ChangeAlike
import Derived.Lib.Hide
import Derived.Laws.Rows
import Derived.Laws.Tables
import Derived.Laws.CopyOwn
import Derived.Laws.MakeOwn
import Derived.Laws.Entries
import Derived.Laws.OwnMore
import Derived.Deep.WholeRow
import Derived.Deep.LoopGhost
import Derived.Deep.AppendLies
import Derived.Deep.Draws
import Derived.Maps.AppendAt
import Derived.OwnWalk
import Derived.Deep.RegionHeld3
import Derived.Deep.Cut
import Derived.Deep.CutRange
import Derived.Deep.DeepCutAuto
import Derived.Deep.CutBlock
import Derived.Lib.SliceRun
import Derived.IntWalk
namespace Go.Proofs.Ytdlgpbmeeiakdaa.planLays
open Go.ChangeShapes Go.WideShapes Go.ChangeAt Go.RowKit
set_option maxRecDepth 100000 in
set_option maxHeartbeats 4000000 in
theorem bad (p c n b r f g ag k : Int) (A : Option Addr) (len cap : Nat) (A2 : Option Addr) (len2 cap2 : Nat) (w : World) (h : ¬ ((1 ≤ p ∧ p ≤ 6) ∧ (1 ≤ c ∧ c ≤ 4) ∧ (1 ≤ n ∧ n ≤ 3) ∧ (1 ≤ b ∧ b ≤ 4) ∧ (0 ≤ r ∧ r ≤ 4) ∧ (1 ≤ f ∧ f ≤ 4) ∧ (1 ≤ g ∧ g ≤ 15))) :
    Calls Try.prog 4 #[.agg #[.int .i64 p, .int .i64 c, .int .i64 n, .int .i64 b, .int .i64 r, .int .i64 f, .int .i64 g], .int .i64 ag, .int .i64 k, .slice A len cap, .slice A2 len2 cap2] w fun e w' => e = .returned (.bool true) ∧ Below w.heap.size w w' := by
  have HN := Lib.hid (fun W => rnew_bad p c n b r f g W h)
  obtain ⟨i, hCK⟩ := check_bad2 p c n b r f g h
  have HCK := Lib.hid hCK
  have i0 : (0 : Int) ≤ (i : Int) := by omega
  have hid : decide ((i : Int) < 0) = false := decide_eq_false (by omega)
  clear hCK h
  have bx0 := Blk7.new w p c n b r f g 23
  go_enter Try.func4, Try.ntmps4
  go_wp2_with fail
  refine (HN.out _).mono ?_
  rintro e w1 ⟨T, v, rfl, hb1⟩
  have bx1 := bx0.below hb1
  have hB1 : Below w.heap.size w w1 := Below.step (by go_grown) hb1
  clear hb1 bx0
  have hB1a := hB1.alloc hB1.size (.cells #[.int .i64 0, .int .i64 0, .int .i64 0, .int .i64 0, .int .i64 0, .int .i64 0, .int .i64 0] 25)
  have bC1 := bx1.below (show Below w1.heap.size w1 (w1.alloc (.cells #[.int .i64 0, .int .i64 0, .int .i64 0, .int .i64 0, .int .i64 0, .int .i64 0, .int .i64 0] 25)) from by go_grown)
  obtain ⟨⟨c0, c1, c2, c3, c4, c5, c6⟩, hl⟩ := id bx1
  go_wp2_with fail
  refine (HCK.out _).mono ?_
  rintro e w2 ⟨rfl, hb2⟩
  have hB2 : Below w.heap.size w w2 := Below.step hB1a hb2
  have bC := bC1.below hb2
  clear hb2 bC1 c0 c1 c2 c3 c4 c5 c6 hl
  go_wp2_with fail
  refine region_sc (by kernel_rfl) (by kernel_rfl) ?_
  go_big_quiet_want
  go_big_quiet_op
  refine ⟨.bool true, fun wq hq => Sc.call awake21 hq, ?_⟩
  go_big_quiet_on
  iterate 3 (first | go_big_quiet_skip | (go_big_quiet_want; go_big_quiet_op; first | go_big_quiet_on | (refine ⟨_, fun _ _ => rfl, ?_⟩; go_big_quiet_on)))
  go_big_quiet_want
  refine ⟨.agg #[.int .i64 p, .int .i64 c, .int .i64 n, .int .i64 b, .int .i64 r, .int .i64 f, .int .i64 g], fun wq hq => ?_, ?_⟩
  · obtain ⟨⟨q0, q1, q2, q3, q4, q5, q6⟩, _⟩ := bC.below hq
    unfold Oper.quietAt
    simp [go_sem, q0, q1, q2, q3, q4, q5, q6, Oper.quietUpon]
  simp only [Act.put, List.setIfInBounds_toArray, List.set_cons_zero, List.set_cons_succ]
  go_big_quiet_on
  go_big_quiet_want
  go_big_quiet_op
  refine ⟨.int .i64 (i : Int), fun wq hq => Sc.call HCK.out hq, ?_⟩
  go_big_quiet_on
  iterate 4 (first | go_big_quiet_skip | (go_big_quiet_want; go_big_quiet_op; first | go_big_quiet_on | (refine ⟨_, fun _ _ => rfl, ?_⟩; go_big_quiet_on)))
  refine wpQuiet_nil ?_
  intro w4 hS4
  go_wp2_with fail
  go_ret
  exact ⟨rfl, Below.step hB2 hS4⟩
set_option maxRecDepth 100000 in
set_option maxHeartbeats 4000000 in
theorem long1 (p c n b r f g ag k : Int) (A : Option Addr) (len cap : Nat) (A2 : Option Addr) (len2 cap2 : Nat) (w : World) (hp : 1 ≤ p ∧ p ≤ 6) (hc : 1 ≤ c ∧ c ≤ 4) (hn : 1 ≤ n ∧ n ≤ 3) (hb : 1 ≤ b ∧ b ≤ 4) (hr : 0 ≤ r ∧ r ≤ 4) (hf : 1 ≤ f ∧ f ≤ 4) (hg : 1 ≤ g ∧ g ≤ 15) (hl : 200 < len) (hlm : len ≤ 9223372036854775807) :
    Calls Try.prog 4 #[.agg #[.int .i64 p, .int .i64 c, .int .i64 n, .int .i64 b, .int .i64 r, .int .i64 f, .int .i64 g], .int .i64 ag, .int .i64 k, .slice A len cap, .slice A2 len2 cap2] w fun e w' => e = .returned (.bool true) ∧ Below w.heap.size w w' := by
  have HN := Lib.hid (fun W => rnew_ok p c n b r f g W hp hc hn hb hr hf hg)
  have HCK := Lib.hid (fun W => check_ok p c n b r f g W hp hc hn hb hr hf hg)
  have l1 : (200 : Int) < (len : Int) := by omega
  have l2 : (len : Int) ≤ 9223372036854775807 := by omega
  clear hp hc hn hb hr hf hg
  have bx0 := Blk7.new w p c n b r f g 23
  go_enter Try.func4, Try.ntmps4
  go_wp2_with fail
  refine (HN.out _).mono ?_
  rintro e w1 ⟨rfl, hb1⟩
  have bx1 := bx0.below hb1
  have hB1 : Below w.heap.size w w1 := Below.step (by go_grown) hb1
  clear hb1 bx0
  have hB1a := hB1.alloc hB1.size (.cells #[.int .i64 p, .int .i64 c, .int .i64 n, .int .i64 b, .int .i64 r, .int .i64 f, .int .i64 g] 25)
  have bC1 := bx1.below (show Below w1.heap.size w1 (w1.alloc (.cells #[.int .i64 p, .int .i64 c, .int .i64 n, .int .i64 b, .int .i64 r, .int .i64 f, .int .i64 g] 25)) from by go_grown)
  obtain ⟨⟨c0, c1, c2, c3, c4, c5, c6⟩, hl⟩ := id bx1
  go_wp2_with fail
  refine (HCK.out _).mono ?_
  rintro e w2 ⟨rfl, hb2⟩
  have hB2 : Below w.heap.size w w2 := Below.step hB1a hb2
  have bC := bC1.below hb2
  clear hb2 bC1 c0 c1 c2 c3 c4 c5 c6 hl
  go_wp2_with fail
  refine region_sc (by kernel_rfl) (by kernel_rfl) ?_
  go_big_quiet_want
  go_big_quiet_op
  refine ⟨.bool true, fun wq hq => Sc.call awake21 hq, ?_⟩
  go_big_quiet_on
  iterate 3 (first | go_big_quiet_skip | (go_big_quiet_want; go_big_quiet_op; first | go_big_quiet_on | (refine ⟨_, fun _ _ => rfl, ?_⟩; go_big_quiet_on)))
  go_big_quiet_want
  refine ⟨.agg #[.int .i64 p, .int .i64 c, .int .i64 n, .int .i64 b, .int .i64 r, .int .i64 f, .int .i64 g], fun wq hq => ?_, ?_⟩
  · obtain ⟨⟨q0, q1, q2, q3, q4, q5, q6⟩, _⟩ := bC.below hq
    unfold Oper.quietAt
    simp [go_sem, q0, q1, q2, q3, q4, q5, q6, Oper.quietUpon]
  simp only [Act.put, List.setIfInBounds_toArray, List.set_cons_zero, List.set_cons_succ]
  go_big_quiet_on
  go_big_quiet_want
  go_big_quiet_op
  refine ⟨.int .i64 (-1), fun wq hq => Sc.call HCK.out hq, ?_⟩
  go_big_quiet_on
  iterate 4 (first | go_big_quiet_skip | (go_big_quiet_want; go_big_quiet_op; first | go_big_quiet_on | (refine ⟨_, fun _ _ => rfl, ?_⟩; go_big_quiet_on)))
  refine wpQuiet_nil ?_
  intro w4 hS4
  go_wp2_with fail
  go_ret
  exact ⟨rfl, Below.step hB2 hS4⟩
set_option maxRecDepth 100000 in
set_option maxHeartbeats 4000000 in
theorem long2 (p c n b r f g ag k : Int) (A : Option Addr) (len cap : Nat) (A2 : Option Addr) (len2 cap2 : Nat) (w : World) (hp : 1 ≤ p ∧ p ≤ 6) (hc : 1 ≤ c ∧ c ≤ 4) (hn : 1 ≤ n ∧ n ≤ 3) (hb : 1 ≤ b ∧ b ≤ 4) (hr : 0 ≤ r ∧ r ≤ 4) (hf : 1 ≤ f ∧ f ≤ 4) (hg : 1 ≤ g ∧ g ≤ 15) (hl : len ≤ 200) (hl2 : 20 < len2) (hlm : len2 ≤ 9223372036854775807) :
    Calls Try.prog 4 #[.agg #[.int .i64 p, .int .i64 c, .int .i64 n, .int .i64 b, .int .i64 r, .int .i64 f, .int .i64 g], .int .i64 ag, .int .i64 k, .slice A len cap, .slice A2 len2 cap2] w fun e w' => e = .returned (.bool true) ∧ Below w.heap.size w w' := by
  have HN := Lib.hid (fun W => rnew_ok p c n b r f g W hp hc hn hb hr hf hg)
  have HCK := Lib.hid (fun W => check_ok p c n b r f g W hp hc hn hb hr hf hg)
  have l1 : (len : Int) ≤ 200 := by omega
  have l1d : decide ((200 : Int) < (len : Int)) = false := decide_eq_false (by omega)
  have l2 : (20 : Int) < (len2 : Int) := by omega
  have l3 : (len2 : Int) ≤ 9223372036854775807 := by omega
  clear hp hc hn hb hr hf hg
  have bx0 := Blk7.new w p c n b r f g 23
  go_enter Try.func4, Try.ntmps4
  go_wp2_with fail
  refine (HN.out _).mono ?_
  rintro e w1 ⟨rfl, hb1⟩
  have bx1 := bx0.below hb1
  have hB1 : Below w.heap.size w w1 := Below.step (by go_grown) hb1
  clear hb1 bx0
  have hB1a := hB1.alloc hB1.size (.cells #[.int .i64 p, .int .i64 c, .int .i64 n, .int .i64 b, .int .i64 r, .int .i64 f, .int .i64 g] 25)
  have bC1 := bx1.below (show Below w1.heap.size w1 (w1.alloc (.cells #[.int .i64 p, .int .i64 c, .int .i64 n, .int .i64 b, .int .i64 r, .int .i64 f, .int .i64 g] 25)) from by go_grown)
  obtain ⟨⟨c0, c1, c2, c3, c4, c5, c6⟩, hl⟩ := id bx1
  go_wp2_with fail
  refine (HCK.out _).mono ?_
  rintro e w2 ⟨rfl, hb2⟩
  have hB2 : Below w.heap.size w w2 := Below.step hB1a hb2
  have bC := bC1.below hb2
  clear hb2 bC1 c0 c1 c2 c3 c4 c5 c6 hl
  go_wp2_with fail
  refine region_sc (by kernel_rfl) (by kernel_rfl) ?_
  go_big_quiet_want
  go_big_quiet_op
  refine ⟨.bool true, fun wq hq => Sc.call awake21 hq, ?_⟩
  go_big_quiet_on
  iterate 3 (first | go_big_quiet_skip | (go_big_quiet_want; go_big_quiet_op; first | go_big_quiet_on | (refine ⟨_, fun _ _ => rfl, ?_⟩; go_big_quiet_on)))
  go_big_quiet_want
  refine ⟨.agg #[.int .i64 p, .int .i64 c, .int .i64 n, .int .i64 b, .int .i64 r, .int .i64 f, .int .i64 g], fun wq hq => ?_, ?_⟩
  · obtain ⟨⟨q0, q1, q2, q3, q4, q5, q6⟩, _⟩ := bC.below hq
    unfold Oper.quietAt
    simp [go_sem, q0, q1, q2, q3, q4, q5, q6, Oper.quietUpon]
  simp only [Act.put, List.setIfInBounds_toArray, List.set_cons_zero, List.set_cons_succ]
  go_big_quiet_on
  go_big_quiet_want
  go_big_quiet_op
  refine ⟨.int .i64 (-1), fun wq hq => Sc.call HCK.out hq, ?_⟩
  go_big_quiet_on
  iterate 4 (first | go_big_quiet_skip | (go_big_quiet_want; go_big_quiet_op; first | go_big_quiet_on | (refine ⟨_, fun _ _ => rfl, ?_⟩; go_big_quiet_on)))
  refine wpQuiet_nil ?_
  intro w4 hS4
  go_wp2_with fail
  go_ret
  exact ⟨rfl, Below.step hB2 hS4⟩
/-- A row of numbers of the call's own. -/
def One (B : Nat) (w : World) (v : Value) (L : List Int) : Prop := w.ownsRow B 3 1 v L.length (L.map (Value.int .i64))
theorem One.nil (B : Nat) (w : World) : One B w (.slice none 0 0) [] := ⟨rfl, .inl ⟨rfl, rfl⟩⟩
theorem One.app {B : Nat} {w : World} {v : Value} {L : List Int} {x : Int} (h : w.ownsRow B 3 1 v (L.length + 1) (L.map (Value.int .i64) ++ [.int .i64 x])) : One B w v (L ++ [x]) := by
  unfold One
  rw [List.length_append, List.map_append]
  exact h
/-- Two of them, apart. -/
def Two (B : Nat) (w : World) (v : Value) (L : List Int) (u : Value) (M : List Int) : Prop := One B w v L ∧ One B w u M ∧ ∀ g, v.ownBlock = some g → u.ownBlock ≠ some g
theorem Two.swap {B : Nat} {w : World} {v u : Value} {L M : List Int} (h : Two B w v L u M) : Two B w u M v L := ⟨h.2.1, h.1, fun g h1 h2 => h.2.2 g h2 h1⟩
theorem Two.app {B : Nat} {w w' : World} {v u v' : Value} {L M : List Int} {x : Int} {o : Obj} (h : Two B w v L u M) (hr : w'.ownsRow B 3 1 v' (L.length + 1) (L.map (Value.int .i64) ++ [.int .i64 x])) (hg : (w.alloc o).grownBy w' v.ownBlock) (hb : v'.ownBlock = v.ownBlock ∨ v'.ownBlock = some (w.alloc o).heap.size) : Two B w' v' (L ++ [x]) u M := by
  have h2 : (w.alloc o).ownsRow B 3 1 u M.length (M.map (Value.int .i64)) := World.ownsRow.alloc h.2.1 o
  have hlt := World.ownsRow.lt h2
  refine ⟨One.app hr, World.ownsRow.kept h2 hg ?_, fun g hg1 hg2 => ?_⟩
  · rcases hu : u.ownBlock with _ | k
    · exact .inl rfl
    · exact .inr (fun e => h.2.2 k e.symm hu)
  · rcases hb with hb | hb
    · rw [hb] at hg1; exact h.2.2 g hg1 hg2
    · rw [hb] at hg1
      have := (hlt g hg2).2
      injection hg1 with hg1
      omega
theorem One.below {B : Nat} {w w' : World} {v : Value} {L : List Int} (h : One B w v L) (hb : Below w.heap.size w w') : One B w' v L := row_kept h hb
/-- Rounds as numbers. -/
def rI (m : Nat) : Nat → List Int
  | 0 => []
  | T + 1 => rI m T ++ [((T % m : Nat) : Int)]
theorem rI_rnd (m : Nat) : ∀ T, rnd m T = (rI m T).map ev3
  | 0 => rfl
  | T + 1 => by
    show rnd m T ++ [_] = (rI m T ++ [_]).map ev3
    rw [rI_rnd m T, List.map_append]
    rfl
theorem rI_len (m : Nat) : ∀ T, (rI m T).length = T
  | 0 => rfl
  | T + 1 => by show (rI m T ++ [_]).length = _; rw [List.length_append, rI_len m T]; rfl
theorem rI_next (m q j : Nat) (hj : j < m) : rI m (q * m + (j + 1)) = rI m (q * m + j) ++ [(j : Int)] := by
  show rI m (q * m + j) ++ [(((q * m + j) % m : Nat) : Int)] = _
  rw [show (q * m + j) % m = j from by rw [Nat.add_comm (q * m) j, Nat.add_mul_mod_self_right, Nat.mod_eq_of_lt hj]]
end Go.Proofs.Ytdlgpbmeeiakdaa.planLays

/-
  StormBegins: the walk.
-/
import Derived.Test.YtgakgnofflnjoaaRows
import Derived.Test.YtgakgnofflnjoaaKit
import Derived.Test.YtgakgnofflnjoaaApp
import Derived.Test.YtgakgnofflnjoaaQuiet
import Derived.Test.YtgakgnofflnjoaaRules
import Derived.Test.YtgakgnofflnjoaaSt
import Derived.Test.YtgakgnofflnjoaaStA
import Derived.Test.YtgakgnofflnjoaaStT
import Derived.Test.YtgakgnofflnjoaaStK
import Derived.Test.YtgakgnofflnjoaaStR
import Derived.Test.YtgakgnofflnjoaaStL
import Derived.Test.YtgakgnofflnjoaaStS
import Derived.Test.YtgakgnofflnjoaaStM
import Derived.Test.YtgakgnofflnjoaaStV
import Derived.Test.YtgakgnofflnjoaaStD
import Derived.Test.YtgakgnofflnjoaaSxP
import Derived.Test.YtgakgnofflnjoaaSxA
import Derived.Test.YtgakgnofflnjoaaSxB
import Derived.Test.YtgakgnofflnjoaaSxT
import Derived.Test.YtgakgnofflnjoaaSxD
import Derived.Test.YtgakgnofflnjoaaSxK
import Derived.Test.YtgakgnofflnjoaaSxQ
import Derived.Test.YtgakgnofflnjoaaSxM
import Derived.Test.YtgakgnofflnjoaaSxL
import Derived.Test.YtgakgnofflnjoaaSxC
import Derived.WalkKit
import Derived.ProofKit
import Derived.OpenShut
import Derived.ShutString
import Derived.Below
import Derived.Outline
import Derived.WalkLawsBesides
import Derived.WalkSpells
import Derived.Handy
import Derived.Deep.QuietTactic
import Derived.BigQuiet
import Derived.RegionTactic
import Derived.ChangeAlike
import Derived.Lib.Hide
import Derived.Laws.Rows
import Derived.Laws.Tables
import Derived.Laws.CopyOwn
import Derived.Laws.MakeOwn
import Derived.Laws.Entries
import Derived.Laws.OwnMore
import Derived.Deep.WholeRow
import Derived.Deep.LoopGhost
import Derived.Deep.AppendLies
import Derived.Deep.Draws
import Derived.Maps.AppendAt
import Derived.OwnWalk
import Derived.Deep.RegionHeld3
import Derived.Deep.Cut
import Derived.Deep.CutRange
import Derived.Deep.DeepCutAuto
import Derived.Deep.CutBlock
import Derived.Lib.SliceRun
import Derived.IntWalk
namespace Go.Proofs.Ytgakgnofflnjoaa.stormBegins
open Go.ChangeShapes Go.WideShapes Go.ChangeAt Go.RowKit
theorem eqSeatAsk (d : Nat) (k i c a1 a2 a3 a4 a5 q : Int) (w : World) : (Op.equalIn (d + 3) 45 (.agg #[.int .i64 k, .int .i64 i, .int .i64 c, .int .i64 a1, .int .i64 a2, .int .i64 a3, .int .i64 a4, .int .i64 a5, .int .i64 q]) (.agg #[.int .i64 k, .int .i64 i, .int .i64 c, .int .i64 a1, .int .i64 a2, .int .i64 a3, .int .i64 a4, .int .i64 a5, .int .i64 q])).run Try.prog w = .ok true w := by
  have u3 := Try.underlying3
  have a3' := Try.isAgg3
  have z3 := Try.sizeOf3
  have a63 := Try.isAgg43
  have z63 := Try.sizeOf43
  have hS : Try.prog.underlying 45 = some (.struct (Try.prog.fieldsOf 45)) := by kernel_rfl
  have hp : Try.prog.stoodInHeld 45 = false := by kernel_rfl
  have hT := eqTerms a1 a2 a3 a4 a5 d
  rw [show d + 3 = (d + 2) + 1 from rfl, run_equalIn_agg w (d + 2) 45 _ _ hS hp]
  simp only [Program.fieldsOf, Try.underlying45]
  go_simp
  try simp [hT]
theorem eqEv (q0 q1 q2 q3 q4 q5 q6 q7 q8 q9 q10 q11 : Int) (w : World) : (Op.equalIn 10000 47 (.agg (List.toArray [Value.int .i64 q0, Value.int .i64 q1, Value.int .i64 q2, Value.int .i64 q3, Value.int .i64 q4, Value.int .i64 q5, Value.int .i64 q6, Value.int .i64 q7, Value.int .i64 q8, Value.int .i64 q9, Value.int .i64 q10, Value.int .i64 q11])) (.agg (List.toArray [Value.int .i64 q0, Value.int .i64 q1, Value.int .i64 q2, Value.int .i64 q3, Value.int .i64 q4, Value.int .i64 q5, Value.int .i64 q6, Value.int .i64 q7, Value.int .i64 q8, Value.int .i64 q9, Value.int .i64 q10, Value.int .i64 q11]))).run Try.prog w = .ok true w := by
  have u3 := Try.underlying3
  have a3' := Try.isAgg3
  have z3 := Try.sizeOf3
  have a63 := Try.isAgg45
  have z63 := Try.sizeOf45
  have hS : Try.prog.underlying 47 = some (.struct (Try.prog.fieldsOf 47)) := by kernel_rfl
  have hp : Try.prog.stoodInHeld 47 = false := by kernel_rfl
  have hT := eqSeatAsk 9996 q3 q4 q5 q6 q7 q8 q9 q10 q11
  rw [show (10000 : Nat) = 9999 + 1 from rfl, run_equalIn_agg w 9999 47 _ _ hS hp]
  simp only [Program.fieldsOf, Try.underlying47]
  go_simp
  try simp [hT]
theorem list12 {α : Type} {l : List α} (h : l.length = 12) : ∃ q0 q1 q2 q3 q4 q5 q6 q7 q8 q9 q10 q11, l = [q0, q1, q2, q3, q4, q5, q6, q7, q8, q9, q10, q11] := by
  match l, h with
  | [q0, q1, q2, q3, q4, q5, q6, q7, q8, q9, q10, q11], _ => exact ⟨q0, q1, q2, q3, q4, q5, q6, q7, q8, q9, q10, q11, rfl⟩
/-- Twelve numbers of two rows that begin alike. -/
theorem twelve {L M : List (List Int)} {n i : Nat} (hL : (lv L).length = n * 12) (hi : i < n) (hp : M.take n = L) (hn : L.length = n) : ∃ q0 q1 q2 q3 q4 q5 q6 q7 q8 q9 q10 q11 : Int, ∀ j v, ([Value.int .i64 q0, Value.int .i64 q1, Value.int .i64 q2, Value.int .i64 q3, Value.int .i64 q4, Value.int .i64 q5, Value.int .i64 q6, Value.int .i64 q7, Value.int .i64 q8, Value.int .i64 q9, Value.int .i64 q10, Value.int .i64 q11] : List Value)[j]? = some v → (lv L)[i * 12 + j]? = some v ∧ (lv M)[i * 12 + j]? = some v := by
  have hf : L.flatten.length = n * 12 := by unfold lv at hL; rw [List.length_map] at hL; exact hL
  obtain ⟨q0, q1, q2, q3, q4, q5, q6, q7, q8, q9, q10, q11, hq⟩ := list12 (l := (L.flatten.drop (i * 12)).take 12) (by rw [List.length_take, List.length_drop, hf]; omega)
  refine ⟨q0, q1, q2, q3, q4, q5, q6, q7, q8, q9, q10, q11, fun j v hv => ?_⟩
  have hj : j < 12 := by
    rcases Nat.lt_or_ge j 12 with h | h
    · exact h
    · rw [List.getElem?_eq_none (by simpa using h)] at hv; cases hv
  have h1 : (lv L)[i * 12 + j]? = some v := by
    unfold lv
    rw [← hv, List.getElem?_map]
    have h2 : ((L.flatten.drop (i * 12)).take 12)[j]? = _ := congrArg (fun l => l[j]?) hq
    rw [List.getElem?_take_of_lt hj, List.getElem?_drop] at h2
    rw [h2]
    show Option.map _ _ = _
    rw [← List.getElem?_map]
    rfl
  refine ⟨h1, ?_⟩
  have h3 : lv M = lv L ++ lv (M.drop n) := by
    unfold lv
    rw [← List.map_append, ← List.flatten_append, ← hp, List.take_append_drop]
  rw [h3, List.getElem?_append_left (by rw [hL]; omega)]
  exact h1
theorem range_of {w wx : World} {base n g c i : Nat} {xs cs : List Value} (h : w.ownsRow base 47 12 (.slice (some ⟨g, 0, none⟩) n c) n xs) (hb : Below w.heap.size w wx) (hi : i < n) (hcs : cs.length = 12) (hx : ∀ j v, cs[j]? = some v → xs[i * 12 + j]? = some v) : wx.rangeAt g (i * 12) cs := fun j v hv => by
  have hj := (List.getElem?_eq_some_iff.1 hv).1
  have hl := (h.lt g rfl).2
  exact (hb.cell (p := ⟨g, i * 12 + j, none⟩) hl).trans ((World.ownsRow.cellAt h (i * 12 + j) (by omega)).trans (hx j v hv))
set_option maxRecDepth 100000 in
set_option maxHeartbeats 4000000 in
theorem bad (p c n b r f g ma mt md ms mp mw seed x y : Int) (w : World) (h : ¬ ((1 ≤ p ∧ p ≤ 6) ∧ (1 ≤ c ∧ c ≤ 4) ∧ (1 ≤ n ∧ n ≤ 3) ∧ (1 ≤ b ∧ b ≤ 4) ∧ (0 ≤ r ∧ r ≤ 4) ∧ (1 ≤ f ∧ f ≤ 4) ∧ (1 ≤ g ∧ g ≤ 15))) : Calls Try.prog 4 #[.agg #[.int .i64 p, .int .i64 c, .int .i64 n, .int .i64 b, .int .i64 r, .int .i64 f, .int .i64 g], .int .u64 seed, .agg #[.int .i64 ma, .int .i64 mt, .int .i64 md, .int .i64 ms, .int .i64 mp, .int .i64 mw], .int .u8 x, .int .u8 y] w fun e w' => e = .returned (.bool true) ∧ Below w.heap.size w w' := by
  have HN := Lib.hid (fun W => rnew_bad p c n b r f g W h)
  clear h
  go_enter Try.func4, Try.ntmps4
  go_wp2_with fail
  refine (HN.out _).mono ?_
  rintro e w1 ⟨T, v, rfl, hb1⟩
  have hB1 : Below w.heap.size w w1 := Below.step (by go_grown) hb1
  clear hb1
  go_wp2_with fail
  refine (awake38 _).mono ?_
  rintro e w3 ⟨rfl, hb3⟩
  have hB3 := Below.step (hB1.alloc hB1.size _) hb3
  go_wp2
  go_ret
  exact ⟨rfl, hB3⟩
set_option maxRecDepth 100000 in
set_option maxHeartbeats 4000000 in
theorem unfit (p c n b r f g ma mt md ms mp mw seed x y : Int) (w : World) (hp : 1 ≤ p ∧ p ≤ 6) (hc : 1 ≤ c ∧ c ≤ 4) (hn : 1 ≤ n ∧ n ≤ 3) (hb : 1 ≤ b ∧ b ≤ 4) (hr : 0 ≤ r ∧ r ≤ 4) (hf : 1 ≤ f ∧ f ≤ 4) (hg : 1 ≤ g ∧ g ≤ 15) (hF : ∀ W, Calls Try.prog 7 #[.agg #[.int .i64 ma, .int .i64 mt, .int .i64 md, .int .i64 ms, .int .i64 mp, .int .i64 mw]] W fun e w' => e = .returned (.bool false) ∧ Below W.heap.size W w') : Calls Try.prog 4 #[.agg #[.int .i64 p, .int .i64 c, .int .i64 n, .int .i64 b, .int .i64 r, .int .i64 f, .int .i64 g], .int .u64 seed, .agg #[.int .i64 ma, .int .i64 mt, .int .i64 md, .int .i64 ms, .int .i64 mp, .int .i64 mw], .int .u8 x, .int .u8 y] w fun e w' => e = .returned (.bool true) ∧ Below w.heap.size w w' := by
  have HN := Lib.hid (fun W => rnew_ok p c n b r f g W hp hc hn hb hr hf hg)
  have HF := Lib.hid hF
  clear hp hc hn hb hr hf hg hF
  go_enter Try.func4, Try.ntmps4
  go_wp2_with fail
  obtain ⟨W0, hW0⟩ : ∃ W0, W0 = (w.alloc (.cells #[.int .i64 p, .int .i64 c, .int .i64 n, .int .i64 b, .int .i64 r, .int .i64 f, .int .i64 g] 23)).alloc (.cells #[.int .i64 ma, .int .i64 mt, .int .i64 md, .int .i64 ms, .int .i64 mp, .int .i64 mw] 26) := ⟨_, rfl⟩
  have bC0 : Bl w.heap.size [.int .i64 p, .int .i64 c, .int .i64 n, .int .i64 b, .int .i64 r, .int .i64 f, .int .i64 g] W0 := by rw [hW0]; exact (Bl.new w [.int .i64 p, .int .i64 c, .int .i64 n, .int .i64 b, .int .i64 r, .int .i64 f, .int .i64 g] 23).below (by go_grown)
  have bM0 : Bl (w.heap.size + 1) [.int .i64 ma, .int .i64 mt, .int .i64 md, .int .i64 ms, .int .i64 mp, .int .i64 mw] W0 := by
    rw [hW0]
    have h := Bl.new (w.alloc (.cells #[.int .i64 p, .int .i64 c, .int .i64 n, .int .i64 b, .int .i64 r, .int .i64 f, .int .i64 g] 23)) [.int .i64 ma, .int .i64 mt, .int .i64 md, .int .i64 ms, .int .i64 mp, .int .i64 mw] 26
    rw [World.size_alloc] at h
    exact h
  have hB0 : Below w.heap.size w W0 := by rw [hW0]; go_grown
  rw [← hW0]
  obtain ⟨C, hC⟩ : ∃ C, C = w.heap.size := ⟨_, rfl⟩
  obtain ⟨M, hM⟩ : ∃ M, M = w.heap.size + 1 := ⟨_, rfl⟩
  rw [← hM] at bM0 ⊢
  rw [← hC] at bC0
  have hwC : w.heap.size = C := hC.symm
  simp only [hwC]
  clear hwC hC hM hW0
  refine (HN.out _).mono ?_
  rintro e w1 ⟨rfl, hb1⟩
  have bM1 := bM0.below hb1
  have hB1 := Below.step hB0 hb1
  have bR1 := Bl.new w1 [.int .i64 p, .int .i64 c, .int .i64 n, .int .i64 b, .int .i64 r, .int .i64 f, .int .i64 g] 28
  have hD1 : Below w1.heap.size w1 (w1.alloc (.cells #[.int .i64 p, .int .i64 c, .int .i64 n, .int .i64 b, .int .i64 r, .int .i64 f, .int .i64 g] 28)) := by go_grown
  have bM2 := bM1.below hD1
  have hB2 := Below.step hB1 hD1
  have hRlt : M < w1.heap.size := bM1.lt
  have m0 := bM1.cell 0 _ rfl
  have m1 := bM1.cell 1 _ rfl
  have m2 := bM1.cell 2 _ rfl
  have m3 := bM1.cell 3 _ rfl
  have m4 := bM1.cell 4 _ rfl
  have m5 := bM1.cell 5 _ rfl
  clear hb1 bC0 bM0 bM1 hB0 hB1 hD1
  go_wp2_with fail
  refine (HF.out _).mono ?_
  rintro e w2 ⟨rfl, hb2⟩
  have hB3 := Below.step hB2 hb2
  go_wp2_with fail
  refine (awake38 _).mono ?_
  rintro e w4 ⟨rfl, hb4⟩
  go_wp2_with fail
  go_ret
  exact ⟨rfl, Below.step hB3 hb4⟩
theorem infoE12 (q0 q1 q2 q3 q4 q5 q6 q7 q8 q9 q10 q11 : Int) : (Try.prog.info? 47).map (·.size) = some (List.length [Value.int .i64 q0, Value.int .i64 q1, Value.int .i64 q2, Value.int .i64 q3, Value.int .i64 q4, Value.int .i64 q5, Value.int .i64 q6, Value.int .i64 q7, Value.int .i64 q8, Value.int .i64 q9, Value.int .i64 q10, Value.int .i64 q11]) := by kernel_rfl
set_option maxRecDepth 100000 in
set_option maxHeartbeats 16000000 in
theorem main (p c n b r f g ma mt md ms mp mw seed : Int) (x y : Nat) (w : World) (hp : 1 ≤ p ∧ p ≤ 6) (hc : 1 ≤ c ∧ c ≤ 4) (hn : 1 ≤ n ∧ n ≤ 3) (hb : 1 ≤ b ∧ b ≤ 4) (hm1 : -10000 ≤ ma ∧ ma ≤ 10000) (hm2 : -10000 ≤ mt ∧ mt ≤ 10000) (hm3 : -10000 ≤ md ∧ md ≤ 10000) (hm4 : -10000 ≤ ms ∧ ms ≤ 10000) (hm5 : -10000 ≤ mp ∧ mp ≤ 10000) (hm6 : 0 ≤ mw ∧ mw ≤ 10000) (hr : 0 ≤ r ∧ r ≤ 4) (hf : 1 ≤ f ∧ f ≤ 4) (hg : 1 ≤ g ∧ g ≤ 15) (hx : x ≤ 255) (hy : y ≤ 255) (hF : ∀ W, Calls Try.prog 7 #[.agg #[.int .i64 ma, .int .i64 mt, .int .i64 md, .int .i64 ms, .int .i64 mp, .int .i64 mw]] W fun e w' => e = .returned (.bool true) ∧ Below W.heap.size W w') : Calls Try.prog 4 #[.agg #[.int .i64 p, .int .i64 c, .int .i64 n, .int .i64 b, .int .i64 r, .int .i64 f, .int .i64 g], .int .u64 seed, .agg #[.int .i64 ma, .int .i64 mt, .int .i64 md, .int .i64 ms, .int .i64 mp, .int .i64 mw], .int .u8 (x : Int), .int .u8 (y : Int)] w fun e w' => e = .returned (.bool true) ∧ Below w.heap.size w w' := by
  have HN := Lib.hid (fun W => rnew_ok p c n b r f g W hp hc hn hb hr hf hg)
  have HF := Lib.hid hF
  have HS1 := Lib.hid (fun W => show Calls Try.prog 9 #[.agg #[.int .i64 p, .int .i64 c, .int .i64 n, .int .i64 b, .int .i64 r, .int .i64 f, .int .i64 g], .int .u64 seed, .agg #[.int .i64 ma, .int .i64 mt, .int .i64 md, .int .i64 ms, .int .i64 mp, .int .i64 mw], .int .i64 (x : Int)] W (fun e w' => ∃ A cp, e = .returned (.slice A x cp) ∧ w'.ownsRow W.heap.size 47 12 (.slice A x cp) x (lv (scr p c n b ma mt md ms mp mw seed x)) ∧ Below W.heap.size W w') from script_is p c n b r f g ma mt md ms mp mw seed (x : Int) W hp hc hn hb hm1 hm2 hm3 hm4 hm5 hm6 (by omega))
  have HS2 := Lib.hid (fun W => show Calls Try.prog 9 #[.agg #[.int .i64 p, .int .i64 c, .int .i64 n, .int .i64 b, .int .i64 r, .int .i64 f, .int .i64 g], .int .u64 seed, .agg #[.int .i64 ma, .int .i64 mt, .int .i64 md, .int .i64 ms, .int .i64 mp, .int .i64 mw], .int .i64 ((x : Int) + (y : Int))] W (fun e w' => ∃ A cp, e = .returned (.slice A (x + y) cp) ∧ w'.ownsRow W.heap.size 47 12 (.slice A (x + y) cp) (x + y) (lv (scr p c n b ma mt md ms mp mw seed (x + y))) ∧ Below W.heap.size W w') from script_is p c n b r f g ma mt md ms mp mw seed (((x + y : Nat) : Int)) W hp hc hn hb hm1 hm2 hm3 hm4 hm5 hm6 (by omega))
  have x1 : (x : Int) ≤ 255 := by omega
  have y1 : (y : Int) ≤ 255 := by omega
  have x0 : (0 : Int) ≤ (x : Int) := by omega
  have y0 : (0 : Int) ≤ (y : Int) := by omega
  clear hp hc hn hb hm1 hm2 hm3 hm4 hm5 hm6 hr hf hg hF hx hy
  go_enter Try.func4, Try.ntmps4
  go_wp2_with fail
  obtain ⟨W0, hW0⟩ : ∃ W0, W0 = (w.alloc (.cells #[.int .i64 p, .int .i64 c, .int .i64 n, .int .i64 b, .int .i64 r, .int .i64 f, .int .i64 g] 23)).alloc (.cells #[.int .i64 ma, .int .i64 mt, .int .i64 md, .int .i64 ms, .int .i64 mp, .int .i64 mw] 26) := ⟨_, rfl⟩
  have bC0 : Bl w.heap.size [.int .i64 p, .int .i64 c, .int .i64 n, .int .i64 b, .int .i64 r, .int .i64 f, .int .i64 g] W0 := by rw [hW0]; exact (Bl.new w [.int .i64 p, .int .i64 c, .int .i64 n, .int .i64 b, .int .i64 r, .int .i64 f, .int .i64 g] 23).below (by go_grown)
  have bM0 : Bl (w.heap.size + 1) [.int .i64 ma, .int .i64 mt, .int .i64 md, .int .i64 ms, .int .i64 mp, .int .i64 mw] W0 := by
    rw [hW0]
    have h := Bl.new (w.alloc (.cells #[.int .i64 p, .int .i64 c, .int .i64 n, .int .i64 b, .int .i64 r, .int .i64 f, .int .i64 g] 23)) [.int .i64 ma, .int .i64 mt, .int .i64 md, .int .i64 ms, .int .i64 mp, .int .i64 mw] 26
    rw [World.size_alloc] at h
    exact h
  have hB0 : Below w.heap.size w W0 := by rw [hW0]; go_grown
  rw [← hW0]
  obtain ⟨C, hC⟩ : ∃ C, C = w.heap.size := ⟨_, rfl⟩
  obtain ⟨M, hM⟩ : ∃ M, M = w.heap.size + 1 := ⟨_, rfl⟩
  rw [← hM] at bM0 ⊢
  rw [← hC] at bC0
  have hwC : w.heap.size = C := hC.symm
  simp only [hwC]
  clear hwC hC hM hW0
  refine (HN.out _).mono ?_
  rintro e w1 ⟨rfl, hb1⟩
  have bM1 := bM0.below hb1
  have hB1 := Below.step hB0 hb1
  have bR1 := Bl.new w1 [.int .i64 p, .int .i64 c, .int .i64 n, .int .i64 b, .int .i64 r, .int .i64 f, .int .i64 g] 28
  have hD1 : Below w1.heap.size w1 (w1.alloc (.cells #[.int .i64 p, .int .i64 c, .int .i64 n, .int .i64 b, .int .i64 r, .int .i64 f, .int .i64 g] 28)) := by go_grown
  have bM2 := bM1.below hD1
  have hB2 := Below.step hB1 hD1
  have hRlt : M < w1.heap.size := bM1.lt
  have m0 := bM1.cell 0 _ rfl
  have m1 := bM1.cell 1 _ rfl
  have m2 := bM1.cell 2 _ rfl
  have m3 := bM1.cell 3 _ rfl
  have m4 := bM1.cell 4 _ rfl
  have m5 := bM1.cell 5 _ rfl
  clear hb1 bC0 bM0 bM1 hB0 hB1 hD1
  go_wp2_with fail
  refine (HF.out _).mono ?_
  rintro e w2 ⟨rfl, hb2⟩
  have hB3 := Below.step hB2 hb2
  have bM3 := bM2.below hb2
  have bR3 := bR1.below hb2
  have n0 := bM3.cell 0 _ rfl
  have n1 := bM3.cell 1 _ rfl
  have n2 := bM3.cell 2 _ rfl
  have n3 := bM3.cell 3 _ rfl
  have n4 := bM3.cell 4 _ rfl
  have n5 := bM3.cell 5 _ rfl
  have r0 := bR3.cell 0 _ rfl
  have r1 := bR3.cell 1 _ rfl
  have r2 := bR3.cell 2 _ rfl
  have r3 := bR3.cell 3 _ rfl
  have r4 := bR3.cell 4 _ rfl
  have r5 := bR3.cell 5 _ rfl
  have r6 := bR3.cell 6 _ rfl
  clear hb2 bM2 bR1 hB2 m0 m1 m2 m3 m4 m5
  go_wp2_with fail
  refine (HS1.out _).mono ?_
  rintro e w3 ⟨A3, c3, rfl, hO3, hb3⟩
  have bM4 := bM3.below hb3
  have bR4 := bR3.below hb3
  have hB4 := Below.step hB3 hb3
  have HO3 := Lib.hid hO3
  have o0 := bM4.cell 0 _ rfl
  have o1 := bM4.cell 1 _ rfl
  have o2 := bM4.cell 2 _ rfl
  have o3 := bM4.cell 3 _ rfl
  have o4 := bM4.cell 4 _ rfl
  have o5 := bM4.cell 5 _ rfl
  have s0 := bR4.cell 0 _ rfl
  have s1 := bR4.cell 1 _ rfl
  have s2 := bR4.cell 2 _ rfl
  have s3 := bR4.cell 3 _ rfl
  have s4 := bR4.cell 4 _ rfl
  have s5 := bR4.cell 5 _ rfl
  have s6 := bR4.cell 6 _ rfl
  clear hb3 bM3 bR3 hB3 hO3 n0 n1 n2 n3 n4 n5 r0 r1 r2 r3 r4 r5 r6
  go_wp2_with fail
  refine (HS2.out _).mono ?_
  rintro e w4 ⟨A4, c4, rfl, hO4, hb4⟩
  have hB5 := Below.step hB4 hb4
  have HO4 := Lib.hid hO4
  have HO5 := Lib.hid (row_kept HO3.out hb4)
  clear hb4 bM4 bR4 hB4 hO4 HO3 o0 o1 o2 o3 o4 o5 s0 s1 s2 s3 s4 s5 s6
  have e1 : ((x : Int) != (x : Int)) = false := by simp
  have e2 : (((x + y : Nat) : Int) != (x : Int) + (y : Int)) = false := by simp
  go_wp2_with fail
  go_loopw [15, 61] (fun _ i wr => ∃ q : Nat, q ≤ x ∧ i = .int .i64 (q : Int) ∧ Below w4.heap.size w4 wr) (fun _ i _ => x + 1 - (intOf i).toNat)
  case atStart => exact ⟨0, Nat.zero_le _, rfl, Below.refl _ _⟩
  case round =>
    obtain ⟨q, hq, rfl, hB⟩ := hrel
    have q0 : (0 : Int) ≤ (q : Int) := by omega
    by_cases hqx : q < x
    · have q1 : (q : Int) < (x : Int) := by omega
      have q2 : (q : Int) < (x : Int) + (y : Int) := by omega
      obtain ⟨q0, q1, q2, q3, q4, q5, q6, q7, q8, q9, q10, q11, HT⟩ := twelve (n := x) (i := q) HO5.out.1 hqx (scr_begins p c n b ma mt md ms mp mw seed x y) (scr_len p c n b ma mt md ms mp mw seed x)
      obtain ⟨g3, cp3, hv3, _, _⟩ := World.ownsRow.form HO5.out (by omega)
      obtain ⟨g4, cp4, hv4, _, _⟩ := World.ownsRow.form HO4.out (by omega)
      obtain ⟨rfl, rfl⟩ : A3 = some ⟨g3, 0, none⟩ ∧ cp3 = c3 := by
        injection hv3 with h1 h2 h3
        exact ⟨h1, h3.symm⟩
      obtain ⟨rfl, rfl⟩ : A4 = some ⟨g4, 0, none⟩ ∧ cp4 = c4 := by
        injection hv4 with h1 h2 h3
        exact ⟨h1, h3.symm⟩
      have hra := range_of (cs := [Value.int .i64 q0, Value.int .i64 q1, Value.int .i64 q2, Value.int .i64 q3, Value.int .i64 q4, Value.int .i64 q5, Value.int .i64 q6, Value.int .i64 q7, Value.int .i64 q8, Value.int .i64 q9, Value.int .i64 q10, Value.int .i64 q11]) HO5.out hB hqx rfl (fun j v hv => (HT j v hv).1)
      have hrb := range_of (cs := [Value.int .i64 q0, Value.int .i64 q1, Value.int .i64 q2, Value.int .i64 q3, Value.int .i64 q4, Value.int .i64 q5, Value.int .i64 q6, Value.int .i64 q7, Value.int .i64 q8, Value.int .i64 q9, Value.int .i64 q10, Value.int .i64 q11]) HO4.out hB (by omega) rfl (fun j v hv => (HT j v hv).2)
      have hS : wr.drew.cell? ⟨g3, q * 12, none⟩ = some (.int .i64 q0) ∧ wr.drew.cell? ⟨g3, q * 12 + 1, none⟩ = some (.int .i64 q1) ∧ wr.drew.cell? ⟨g3, q * 12 + 2, none⟩ = some (.int .i64 q2) ∧ wr.drew.cell? ⟨g3, q * 12 + 3, none⟩ = some (.int .i64 q3) ∧ wr.drew.cell? ⟨g3, q * 12 + 4, none⟩ = some (.int .i64 q4) ∧ wr.drew.cell? ⟨g3, q * 12 + 5, none⟩ = some (.int .i64 q5) ∧ wr.drew.cell? ⟨g3, q * 12 + 6, none⟩ = some (.int .i64 q6) ∧ wr.drew.cell? ⟨g3, q * 12 + 7, none⟩ = some (.int .i64 q7) ∧ wr.drew.cell? ⟨g3, q * 12 + 8, none⟩ = some (.int .i64 q8) ∧ wr.drew.cell? ⟨g3, q * 12 + 9, none⟩ = some (.int .i64 q9) ∧ wr.drew.cell? ⟨g3, q * 12 + 10, none⟩ = some (.int .i64 q10) ∧ wr.drew.cell? ⟨g3, q * 12 + 11, none⟩ = some (.int .i64 q11) ∧ wr.drew.cell? ⟨g4, q * 12, none⟩ = some (.int .i64 q0) ∧ wr.drew.cell? ⟨g4, q * 12 + 1, none⟩ = some (.int .i64 q1) ∧ wr.drew.cell? ⟨g4, q * 12 + 2, none⟩ = some (.int .i64 q2) ∧ wr.drew.cell? ⟨g4, q * 12 + 3, none⟩ = some (.int .i64 q3) ∧ wr.drew.cell? ⟨g4, q * 12 + 4, none⟩ = some (.int .i64 q4) ∧ wr.drew.cell? ⟨g4, q * 12 + 5, none⟩ = some (.int .i64 q5) ∧ wr.drew.cell? ⟨g4, q * 12 + 6, none⟩ = some (.int .i64 q6) ∧ wr.drew.cell? ⟨g4, q * 12 + 7, none⟩ = some (.int .i64 q7) ∧ wr.drew.cell? ⟨g4, q * 12 + 8, none⟩ = some (.int .i64 q8) ∧ wr.drew.cell? ⟨g4, q * 12 + 9, none⟩ = some (.int .i64 q9) ∧ wr.drew.cell? ⟨g4, q * 12 + 10, none⟩ = some (.int .i64 q10) ∧ wr.drew.cell? ⟨g4, q * 12 + 11, none⟩ = some (.int .i64 q11) := (And.intro (hra 0 _ rfl) (And.intro (hra 1 _ rfl) (And.intro (hra 2 _ rfl) (And.intro (hra 3 _ rfl) (And.intro (hra 4 _ rfl) (And.intro (hra 5 _ rfl) (And.intro (hra 6 _ rfl) (And.intro (hra 7 _ rfl) (And.intro (hra 8 _ rfl) (And.intro (hra 9 _ rfl) (And.intro (hra 10 _ rfl) (And.intro (hra 11 _ rfl) (And.intro (hrb 0 _ rfl) (And.intro (hrb 1 _ rfl) (And.intro (hrb 2 _ rfl) (And.intro (hrb 3 _ rfl) (And.intro (hrb 4 _ rfl) (And.intro (hrb 5 _ rfl) (And.intro (hrb 6 _ rfl) (And.intro (hrb 7 _ rfl) (And.intro (hrb 8 _ rfl) (And.intro (hrb 9 _ rfl) (And.intro (hrb 10 _ rfl) (hrb 11 _ rfl))))))))))))))))))))))))
      have heq := eqEv q0 q1 q2 q3 q4 q5 q6 q7 q8 q9 q10 q11
      clear HT hra hrb
      go_wp2_with fail
      go_region_held3 (fun w' => w'.cell? ⟨g3, q * 12, none⟩ = some (.int .i64 q0) ∧ w'.cell? ⟨g3, q * 12 + 1, none⟩ = some (.int .i64 q1) ∧ w'.cell? ⟨g3, q * 12 + 2, none⟩ = some (.int .i64 q2) ∧ w'.cell? ⟨g3, q * 12 + 3, none⟩ = some (.int .i64 q3) ∧ w'.cell? ⟨g3, q * 12 + 4, none⟩ = some (.int .i64 q4) ∧ w'.cell? ⟨g3, q * 12 + 5, none⟩ = some (.int .i64 q5) ∧ w'.cell? ⟨g3, q * 12 + 6, none⟩ = some (.int .i64 q6) ∧ w'.cell? ⟨g3, q * 12 + 7, none⟩ = some (.int .i64 q7) ∧ w'.cell? ⟨g3, q * 12 + 8, none⟩ = some (.int .i64 q8) ∧ w'.cell? ⟨g3, q * 12 + 9, none⟩ = some (.int .i64 q9) ∧ w'.cell? ⟨g3, q * 12 + 10, none⟩ = some (.int .i64 q10) ∧ w'.cell? ⟨g3, q * 12 + 11, none⟩ = some (.int .i64 q11) ∧ w'.cell? ⟨g4, q * 12, none⟩ = some (.int .i64 q0) ∧ w'.cell? ⟨g4, q * 12 + 1, none⟩ = some (.int .i64 q1) ∧ w'.cell? ⟨g4, q * 12 + 2, none⟩ = some (.int .i64 q2) ∧ w'.cell? ⟨g4, q * 12 + 3, none⟩ = some (.int .i64 q3) ∧ w'.cell? ⟨g4, q * 12 + 4, none⟩ = some (.int .i64 q4) ∧ w'.cell? ⟨g4, q * 12 + 5, none⟩ = some (.int .i64 q5) ∧ w'.cell? ⟨g4, q * 12 + 6, none⟩ = some (.int .i64 q6) ∧ w'.cell? ⟨g4, q * 12 + 7, none⟩ = some (.int .i64 q7) ∧ w'.cell? ⟨g4, q * 12 + 8, none⟩ = some (.int .i64 q8) ∧ w'.cell? ⟨g4, q * 12 + 9, none⟩ = some (.int .i64 q9) ∧ w'.cell? ⟨g4, q * 12 + 10, none⟩ = some (.int .i64 q10) ∧ w'.cell? ⟨g4, q * 12 + 11, none⟩ = some (.int .i64 q11)) (first | with_reducible exact hS | fail) (first | fail)
      go_wp2_with fail
      go_roundw
      case rel => exact ⟨q + 1, by omega, by go_num, Below.drew hB⟩
      case measure => simp [intOf]; omega
    · obtain rfl : q = x := by omega
      have hd : decide ((q : Int) < (q : Int)) = false := decide_eq_false (by omega)
      go_wp2_with fail
      refine (awake38 _).mono ?_
      rintro e w5 ⟨rfl, hb5⟩
      go_wp2_with fail
      go_ret
      exact ⟨rfl, Below.step (Below.step hB5 hB) hb5⟩
theorem walk (a0_0 a0_1 a0_2 a0_3 a0_4 a0_5 a0_6 : Int) (a1 : Int) (a2_0 a2_1 a2_2 a2_3 a2_4 a2_5 : Int) (a3 a4 : Int) (w : World) (_ : (Lit.int .i64 a0_0).wf = true) (_ : (Lit.int .i64 a0_1).wf = true) (_ : (Lit.int .i64 a0_2).wf = true) (_ : (Lit.int .i64 a0_3).wf = true) (_ : (Lit.int .i64 a0_4).wf = true) (_ : (Lit.int .i64 a0_5).wf = true) (_ : (Lit.int .i64 a0_6).wf = true) (_ : (Lit.int .u64 a1).wf = true) (_ : (Lit.int .i64 a2_0).wf = true) (_ : (Lit.int .i64 a2_1).wf = true) (_ : (Lit.int .i64 a2_2).wf = true) (_ : (Lit.int .i64 a2_3).wf = true) (_ : (Lit.int .i64 a2_4).wf = true) (_ : (Lit.int .i64 a2_5).wf = true) (w3 : (Lit.int .u8 a3).wf = true) (w4 : (Lit.int .u8 a4).wf = true) :
    Calls Try.prog 4 #[.agg #[.int .i64 a0_0, .int .i64 a0_1, .int .i64 a0_2, .int .i64 a0_3, .int .i64 a0_4, .int .i64 a0_5, .int .i64 a0_6], .int .u64 a1, .agg #[.int .i64 a2_0, .int .i64 a2_1, .int .i64 a2_2, .int .i64 a2_3, .int .i64 a2_4, .int .i64 a2_5], .int .u8 a3, .int .u8 a4] w fun e w' => e = .returned (.bool true) ∧ Below w.heap.size w w' := by
  have b3 := bounds_u8 w3
  have b4 := bounds_u8 w4
  by_cases h : (1 ≤ a0_0 ∧ a0_0 ≤ 6) ∧ (1 ≤ a0_1 ∧ a0_1 ≤ 4) ∧ (1 ≤ a0_2 ∧ a0_2 ≤ 3) ∧ (1 ≤ a0_3 ∧ a0_3 ≤ 4) ∧ (0 ≤ a0_4 ∧ a0_4 ≤ 4) ∧ (1 ≤ a0_5 ∧ a0_5 ≤ 4) ∧ (1 ≤ a0_6 ∧ a0_6 ≤ 15)
  · obtain ⟨hp, hc, hn, hb, hr, hf, hg⟩ := h
    by_cases hin : (-10000 ≤ a2_0 ∧ a2_0 ≤ 10000) ∧ (-10000 ≤ a2_1 ∧ a2_1 ≤ 10000) ∧ (-10000 ≤ a2_2 ∧ a2_2 ≤ 10000) ∧ (-10000 ≤ a2_3 ∧ a2_3 ≤ 10000) ∧ (-10000 ≤ a2_4 ∧ a2_4 ≤ 10000) ∧ (-10000 ≤ a2_5 ∧ a2_5 ≤ 10000)
    · by_cases h0 : a2_5 < 0
      · exact unfit _ _ _ _ _ _ _ _ _ _ _ _ _ a1 a3 a4 w hp hc hn hb hr hf hg (fun W => fits_neg _ _ _ _ _ _ W hin h0)
      · obtain ⟨x, rfl⟩ : ∃ x : Nat, a3 = (x : Int) := ⟨a3.toNat, by omega⟩
        obtain ⟨y, rfl⟩ : ∃ y : Nat, a4 = (y : Int) := ⟨a4.toNat, by omega⟩
        exact main _ _ _ _ _ _ _ _ _ _ _ _ _ a1 x y w hp hc hn hb hin.1 hin.2.1 hin.2.2.1 hin.2.2.2.1 hin.2.2.2.2.1 ⟨by omega, hin.2.2.2.2.2.2⟩ hr hf hg (by omega) (by omega) (fun W => fits_yes _ _ _ _ _ _ W hin (by omega))
    · exact unfit _ _ _ _ _ _ _ _ _ _ _ _ _ a1 a3 a4 w hp hc hn hb hr hf hg (fun W => fits_no _ _ _ _ _ _ W hin)
  · exact bad _ _ _ _ _ _ _ _ _ _ _ _ _ a1 a3 a4 w h
end Go.Proofs.Ytgakgnofflnjoaa.stormBegins

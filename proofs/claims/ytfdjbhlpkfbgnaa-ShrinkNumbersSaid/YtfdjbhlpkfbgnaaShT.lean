/-
  The events of the reference, as the program's.
-/
import Derived.Test.YtfdjbhlpkfbgnaaRows
import Derived.Test.YtfdjbhlpkfbgnaaKit
import Derived.Test.YtfdjbhlpkfbgnaaApp
import Derived.Test.YtfdjbhlpkfbgnaaQuiet
import Derived.Test.YtfdjbhlpkfbgnaaShM
import Derived.Test.YtfdjbhlpkfbgnaaShO
import Derived.Test.YtfdjbhlpkfbgnaaShB
import Derived.Test.YtfdjbhlpkfbgnaaShC
import Derived.Test.YtfdjbhlpkfbgnaaShD
import Derived.Test.YtfdjbhlpkfbgnaaShO
import Derived.WalkKit
import Derived.ProofKit
import Derived.OpenShut
import Derived.ShutString
import Derived.Below
import Derived.Outline
import Derived.WalkLawsBesides
import Derived.WalkSpells
import Derived.Handy
import Derived.Deep.QuietTactic
import Derived.BigQuiet
import Derived.RegionTactic
import Derived.ChangeAlike
import Derived.Lib.Hide
import Derived.Laws.Rows
import Derived.Laws.Tables
import Derived.Laws.CopyOwn
import Derived.Laws.MakeOwn
import Derived.Laws.Entries
import Derived.Laws.OwnMore
import Derived.Deep.WholeRow
import Derived.Deep.LoopGhost
import Derived.Deep.AppendLies
import Derived.Deep.Draws
import Derived.Maps.AppendAt
import Derived.OwnWalk
import Derived.Deep.RegionHeld3
import Derived.Deep.Cut
import Derived.Deep.CutRange
import Derived.Deep.DeepCutAuto
import Derived.Deep.CutBlock
import Derived.Lib.SliceRun
import Derived.IntWalk
namespace Go.Proofs.Ytfdjbhlpkfbgnaa
open Go.ChangeShapes Go.WideShapes Go.ChangeAt Go.RowKit
theorem to11 (k i c a1 a2 a3 a4 a5 q : Int) (w : World) : Calls Try.prog 25 #[.agg #[.int .i64 k, .int .i64 i, .int .i64 c, .int .i64 a1, .int .i64 a2, .int .i64 a3, .int .i64 a4, .int .i64 a5, .int .i64 q]] w fun e w' => e = .returned (.agg #[.int .i64 k, .int .i64 i, .int .i64 c, .int .i64 a1, .int .i64 a2, .int .i64 a3, .int .i64 a4, .int .i64 a5, .int .i64 q]) ∧ Below w.heap.size w w' := by
  go_enter Try.func25, Try.ntmps25
  go_wp2
  refine bodyPost_ret (by simp [results, Try.results25, go_sem]; try rfl) rfl ⟨rfl, ?_⟩
  go_grown
theorem ret_of {K : Act → World → Prop} {Q : Exit → Act → World → Prop} {a : Act} {w : World} (hk : ∀ a w, Code.wp Try.prog Code.ret Q a w → K a w) (h : Code.wp Try.prog Code.ret Q a w) : Exit.then K Q .normal a w := hk a w h
set_option maxHeartbeats 4000000 in
theorem to13 (q0 q1 q2 q3 q4 q5 q6 q7 q8 q9 q10 q11 : Int) (w : World) : Calls Try.prog 18 #[.agg #[.int .i64 q0, .int .i64 q1, .int .i64 q2, .int .i64 q3, .int .i64 q4, .int .i64 q5, .int .i64 q6, .int .i64 q7, .int .i64 q8, .int .i64 q9, .int .i64 q10, .int .i64 q11]] w fun e w' => e = .returned (.agg #[.int .i64 q0, .int .i64 q1, .int .i64 q2, .int .i64 q3, .int .i64 q4, .int .i64 q5, .int .i64 q6, .int .i64 q7, .int .i64 q8, .int .i64 q9, .int .i64 q10, .int .i64 q11]) ∧ Below w.heap.size w w' := by
  have HT := Lib.hid (fun W => to11 q3 q4 q5 q6 q7 q8 q9 q10 q11 W)
  go_enter Try.func18, Try.ntmps18
  go_wp2_with fail
  have b1 := Bl.new w [.int .i64 q0, .int .i64 q1, .int .i64 q2, .int .i64 q3, .int .i64 q4, .int .i64 q5, .int .i64 q6, .int .i64 q7, .int .i64 q8, .int .i64 q9, .int .i64 q10, .int .i64 q11] 42
  have s1 : (w.alloc (.cells #[.int .i64 q0, .int .i64 q1, .int .i64 q2, .int .i64 q3, .int .i64 q4, .int .i64 q5, .int .i64 q6, .int .i64 q7, .int .i64 q8, .int .i64 q9, .int .i64 q10, .int .i64 q11] 42)).heap.size = w.heap.size + 1 := World.size_alloc ..
  have g1 : Below w.heap.size w (w.alloc (.cells #[.int .i64 q0, .int .i64 q1, .int .i64 q2, .int .i64 q3, .int .i64 q4, .int .i64 q5, .int .i64 q6, .int .i64 q7, .int .i64 q8, .int .i64 q9, .int .i64 q10, .int .i64 q11] 42)) := by go_grown
  generalize w.alloc (.cells #[.int .i64 q0, .int .i64 q1, .int .i64 q2, .int .i64 q3, .int .i64 q4, .int .i64 q5, .int .i64 q6, .int .i64 q7, .int .i64 q8, .int .i64 q9, .int .i64 q10, .int .i64 q11] 42) = w1 at *
  have b2 := Bl.new w1 [.int .i64 0, .int .i64 0, .int .i64 0, .int .i64 0, .int .i64 0, .int .i64 0, .int .i64 0, .int .i64 0, .int .i64 0, .int .i64 0, .int .i64 0, .int .i64 0] 38
  have g3 : Below w1.heap.size w1 (w1.alloc (.cells #[.int .i64 0, .int .i64 0, .int .i64 0, .int .i64 0, .int .i64 0, .int .i64 0, .int .i64 0, .int .i64 0, .int .i64 0, .int .i64 0, .int .i64 0, .int .i64 0] 38)) := by go_grown
  have g2 := Below.step g1 g3
  have b1 := b1.below g3
  generalize w1.alloc (.cells #[.int .i64 0, .int .i64 0, .int .i64 0, .int .i64 0, .int .i64 0, .int .i64 0, .int .i64 0, .int .i64 0, .int .i64 0, .int .i64 0, .int .i64 0, .int .i64 0] 38) = w2 at *
  rw [s1] at b2
  have b1 := b1.below (Below.drew (Below.refl _ _))
  have b2 := b2.below (Below.drew (Below.refl _ _))
  have g2 := Below.drew g2
  have hne : w.heap.size + 1 ≠ w.heap.size := by omega
  have hS := (And.intro (b1.cell 0 _ rfl) (And.intro (b1.cell 1 _ rfl) (And.intro (b1.cell 2 _ rfl) (And.intro (b1.cell 3 _ rfl) (And.intro (b1.cell 4 _ rfl) (And.intro (b1.cell 5 _ rfl) (And.intro (b1.cell 6 _ rfl) (And.intro (b1.cell 7 _ rfl) (And.intro (b1.cell 8 _ rfl) (And.intro (b1.cell 9 _ rfl) (And.intro (b1.cell 10 _ rfl) (And.intro (b1.cell 11 _ rfl) (And.intro (b2.frz 0) (And.intro (b2.frz 1) (And.intro (b2.frz 2) (And.intro (b2.frz 3) (And.intro (b2.frz 4) (And.intro (b2.frz 5) (And.intro (b2.frz 6) (And.intro (b2.frz 7) (And.intro (b2.frz 8) (And.intro (b2.frz 9) (And.intro (b2.frz 10) (b2.frz 11))))))))))))))))))))))))
  clear g3 s1
  go_region_held3 (fun w' => w'.cell? ⟨w.heap.size, 0, none⟩ = some (.int .i64 q0) ∧ w'.cell? ⟨w.heap.size, 1, none⟩ = some (.int .i64 q1) ∧ w'.cell? ⟨w.heap.size, 2, none⟩ = some (.int .i64 q2) ∧ w'.cell? ⟨w.heap.size, 3, none⟩ = some (.int .i64 q3) ∧ w'.cell? ⟨w.heap.size, 4, none⟩ = some (.int .i64 q4) ∧ w'.cell? ⟨w.heap.size, 5, none⟩ = some (.int .i64 q5) ∧ w'.cell? ⟨w.heap.size, 6, none⟩ = some (.int .i64 q6) ∧ w'.cell? ⟨w.heap.size, 7, none⟩ = some (.int .i64 q7) ∧ w'.cell? ⟨w.heap.size, 8, none⟩ = some (.int .i64 q8) ∧ w'.cell? ⟨w.heap.size, 9, none⟩ = some (.int .i64 q9) ∧ w'.cell? ⟨w.heap.size, 10, none⟩ = some (.int .i64 q10) ∧ w'.cell? ⟨w.heap.size, 11, none⟩ = some (.int .i64 q11) ∧ w'.frozen? ⟨w.heap.size + 1, 0, none⟩ = false ∧ w'.frozen? ⟨w.heap.size + 1, 1, none⟩ = false ∧ w'.frozen? ⟨w.heap.size + 1, 2, none⟩ = false ∧ w'.frozen? ⟨w.heap.size + 1, 3, none⟩ = false ∧ w'.frozen? ⟨w.heap.size + 1, 4, none⟩ = false ∧ w'.frozen? ⟨w.heap.size + 1, 5, none⟩ = false ∧ w'.frozen? ⟨w.heap.size + 1, 6, none⟩ = false ∧ w'.frozen? ⟨w.heap.size + 1, 7, none⟩ = false ∧ w'.frozen? ⟨w.heap.size + 1, 8, none⟩ = false ∧ w'.frozen? ⟨w.heap.size + 1, 9, none⟩ = false ∧ w'.frozen? ⟨w.heap.size + 1, 10, none⟩ = false ∧ w'.frozen? ⟨w.heap.size + 1, 11, none⟩ = false) (first | with_reducible exact hS | with_reducible exact hSx | fail) (first | (go_at_call 25; (with_reducible refine (HT.out _).mono ?_); rintro e w3 ⟨rfl, hb3⟩; have b1 := b1.below hb3; have b2 := b2.below hb3; have g2 := Below.step g2 hb3; have hS := (And.intro (b1.cell 0 _ rfl) (And.intro (b1.cell 1 _ rfl) (And.intro (b1.cell 2 _ rfl) (And.intro (b1.cell 3 _ rfl) (And.intro (b1.cell 4 _ rfl) (And.intro (b1.cell 5 _ rfl) (And.intro (b1.cell 6 _ rfl) (And.intro (b1.cell 7 _ rfl) (And.intro (b1.cell 8 _ rfl) (And.intro (b1.cell 9 _ rfl) (And.intro (b1.cell 10 _ rfl) (And.intro (b1.cell 11 _ rfl) (And.intro (b2.frz 0) (And.intro (b2.frz 1) (And.intro (b2.frz 2) (And.intro (b2.frz 3) (And.intro (b2.frz 4) (And.intro (b2.frz 5) (And.intro (b2.frz 6) (And.intro (b2.frz 7) (And.intro (b2.frz 8) (And.intro (b2.frz 9) (And.intro (b2.frz 10) (b2.frz 11)))))))))))))))))))))))); have z0 := b2.cell 0 _ rfl; have y0 := b2.frz 0; have z1 := b2.cell 1 _ rfl; have y1 := b2.frz 1; have z2 := b2.cell 2 _ rfl; have y2 := b2.frz 2; have z3 := b2.cell 3 _ rfl; have y3 := b2.frz 3; have z4 := b2.cell 4 _ rfl; have y4 := b2.frz 4; have z5 := b2.cell 5 _ rfl; have y5 := b2.frz 5; have z6 := b2.cell 6 _ rfl; have y6 := b2.frz 6; have z7 := b2.cell 7 _ rfl; have y7 := b2.frz 7; have z8 := b2.cell 8 _ rfl; have y8 := b2.frz 8; have z9 := b2.cell 9 _ rfl; have y9 := b2.frz 9; have z10 := b2.cell 10 _ rfl; have y10 := b2.frz 10; have z11 := b2.cell 11 _ rfl; have y11 := b2.frz 11; have b1x := ((((((((((((b1.far (p := ⟨w.heap.size + 1, 0, none⟩) hne (.int .i64 q0)).far (p := ⟨w.heap.size + 1, 1, none⟩) hne (.int .i64 q1)).far (p := ⟨w.heap.size + 1, 2, none⟩) hne (.int .i64 q2)).far (p := ⟨w.heap.size + 1, 3, none⟩) hne (.int .i64 q3)).far (p := ⟨w.heap.size + 1, 4, none⟩) hne (.int .i64 q4)).far (p := ⟨w.heap.size + 1, 5, none⟩) hne (.int .i64 q5)).far (p := ⟨w.heap.size + 1, 6, none⟩) hne (.int .i64 q6)).far (p := ⟨w.heap.size + 1, 7, none⟩) hne (.int .i64 q7)).far (p := ⟨w.heap.size + 1, 8, none⟩) hne (.int .i64 q8)).far (p := ⟨w.heap.size + 1, 9, none⟩) hne (.int .i64 q9)).far (p := ⟨w.heap.size + 1, 10, none⟩) hne (.int .i64 q10)).far (p := ⟨w.heap.size + 1, 11, none⟩) hne (.int .i64 q11)); have b2x := ((((((((((((b2.set 0 (.int .i64 q0)).set 1 (.int .i64 q1)).set 2 (.int .i64 q2)).set 3 (.int .i64 q3)).set 4 (.int .i64 q4)).set 5 (.int .i64 q5)).set 6 (.int .i64 q6)).set 7 (.int .i64 q7)).set 8 (.int .i64 q8)).set 9 (.int .i64 q9)).set 10 (.int .i64 q10)).set 11 (.int .i64 q11)); have hSx := (And.intro (b1x.cell 0 _ rfl) (And.intro (b1x.cell 1 _ rfl) (And.intro (b1x.cell 2 _ rfl) (And.intro (b1x.cell 3 _ rfl) (And.intro (b1x.cell 4 _ rfl) (And.intro (b1x.cell 5 _ rfl) (And.intro (b1x.cell 6 _ rfl) (And.intro (b1x.cell 7 _ rfl) (And.intro (b1x.cell 8 _ rfl) (And.intro (b1x.cell 9 _ rfl) (And.intro (b1x.cell 10 _ rfl) (And.intro (b1x.cell 11 _ rfl) (And.intro (b2x.frz 0) (And.intro (b2x.frz 1) (And.intro (b2x.frz 2) (And.intro (b2x.frz 3) (And.intro (b2x.frz 4) (And.intro (b2x.frz 5) (And.intro (b2x.frz 6) (And.intro (b2x.frz 7) (And.intro (b2x.frz 8) (And.intro (b2x.frz 9) (And.intro (b2x.frz 10) (b2x.frz 11)))))))))))))))))))))))); have gx := (Below.setCell (p := ⟨w.heap.size + 1, 11, none⟩) (Below.setCell (p := ⟨w.heap.size + 1, 10, none⟩) (Below.setCell (p := ⟨w.heap.size + 1, 9, none⟩) (Below.setCell (p := ⟨w.heap.size + 1, 8, none⟩) (Below.setCell (p := ⟨w.heap.size + 1, 7, none⟩) (Below.setCell (p := ⟨w.heap.size + 1, 6, none⟩) (Below.setCell (p := ⟨w.heap.size + 1, 5, none⟩) (Below.setCell (p := ⟨w.heap.size + 1, 4, none⟩) (Below.setCell (p := ⟨w.heap.size + 1, 3, none⟩) (Below.setCell (p := ⟨w.heap.size + 1, 2, none⟩) (Below.setCell (p := ⟨w.heap.size + 1, 1, none⟩) (Below.setCell (p := ⟨w.heap.size + 1, 0, none⟩) g2 (Nat.le_add_right _ 1) (.int .i64 q0)) (Nat.le_add_right _ 1) (.int .i64 q1)) (Nat.le_add_right _ 1) (.int .i64 q2)) (Nat.le_add_right _ 1) (.int .i64 q3)) (Nat.le_add_right _ 1) (.int .i64 q4)) (Nat.le_add_right _ 1) (.int .i64 q5)) (Nat.le_add_right _ 1) (.int .i64 q6)) (Nat.le_add_right _ 1) (.int .i64 q7)) (Nat.le_add_right _ 1) (.int .i64 q8)) (Nat.le_add_right _ 1) (.int .i64 q9)) (Nat.le_add_right _ 1) (.int .i64 q10)) (Nat.le_add_right _ 1) (.int .i64 q11)); clear hb3) | fail)
  all_goals (obtain ⟨tt, ht⟩ := b2x)
  all_goals (have HH := Lib.hid (And.intro ht gx); clear ht gx hSx b1x hS hne b1 b2 g2 z0 y0 z1 y1 z2 y2 z3 y3 z4 y4 z5 y5 z6 y6 z7 y7 z8 y8 z9 y9 z10 y10 z11 y11)
  all_goals (apply ret_of)
  all_goals (first | assumption | skip)
  all_goals (generalize ((((((((((((w3.setCell ⟨w.heap.size + 1, 0, none⟩ (.int .i64 q0)).setCell ⟨w.heap.size + 1, 1, none⟩ (.int .i64 q1)).setCell ⟨w.heap.size + 1, 2, none⟩ (.int .i64 q2)).setCell ⟨w.heap.size + 1, 3, none⟩ (.int .i64 q3)).setCell ⟨w.heap.size + 1, 4, none⟩ (.int .i64 q4)).setCell ⟨w.heap.size + 1, 5, none⟩ (.int .i64 q5)).setCell ⟨w.heap.size + 1, 6, none⟩ (.int .i64 q6)).setCell ⟨w.heap.size + 1, 7, none⟩ (.int .i64 q7)).setCell ⟨w.heap.size + 1, 8, none⟩ (.int .i64 q8)).setCell ⟨w.heap.size + 1, 9, none⟩ (.int .i64 q9)).setCell ⟨w.heap.size + 1, 10, none⟩ (.int .i64 q10)).setCell ⟨w.heap.size + 1, 11, none⟩ (.int .i64 q11)) = wz at *)
  all_goals (go_wp2_with fail)
  all_goals (refine bodyPost_ret (results_cell_row rfl _ _ (w.heap.size + 1) _ _ (0, 0) _ rfl HH.out.1 Try.underlying38 rfl (by kernel_rfl)) rfl ⟨rfl, HH.out.2⟩)

def evs (g : Nat → Evn) (k : Nat) : List Evn := (List.range k).map g
theorem evs_len (g : Nat → Evn) (k : Nat) : (evs g k).length = k := by unfold evs; simp
theorem evs_succ (g : Nat → Evn) (k : Nat) : evs g (k + 1) = evs g k ++ [g k] := by unfold evs; rw [List.range_succ, List.map_append]; rfl
set_option maxRecDepth 100000 in
set_option maxHeartbeats 1000000 in
theorem all_is (A : Option Addr) (len cp : Nat) (g : Nat → Evn) (hn : len ≤ 100) (w : World) (h : EvnAt A len g w) : Calls Try.prog 7 #[.slice A len cp] w fun e w' => ∃ A' c', e = .returned (.slice A' len c') ∧ w'.ownsRow w.heap.size 38 12 (.slice A' len c') len (nv (evs g len)) ∧ Below w.heap.size w w' := by
  obtain ⟨i0, hi0, hz0, hz1, hz2⟩ := info_parts infoE
  have HI0 := Lib.hid hi0
  have HZ0 := Lib.hid hz0
  have HZ1 := Lib.hid hz1
  have HZ2 := Lib.hid hz2
  have HA := Lib.hid h
  have HT := Lib.hid to13
  have n0 : (0 : Int) ≤ (len : Int) := by omega
  have n1 : (len : Int) ≤ 100 := by omega
  clear h hn hi0 hz0 hz1 hz2
  go_enter Try.func7, Try.ntmps7
  go_wp2_with fail
  go_loopw [3, 5, 8] (fun s _ i wr => ∃ (k : Nat) (Az : Option Addr) (cz : Nat), k ≤ len ∧ i = .int .i64 (k : Int) ∧ s = .slice Az k cz ∧ Hid (wr.ownsRow w.heap.size 38 12 (.slice Az k cz) k (nv (evs g k)) ∧ Below w.heap.size w wr)) (fun _ _ i _ => len + 1 - (intOf i).toNat)
  case atStart => exact ⟨0, none, 0, Nat.zero_le _, rfl, rfl, Lib.hid ⟨World.ownsRow_nil _ _ _ _, Below.refl _ _⟩⟩
  case round =>
    obtain ⟨k, Az, cz, hk, rfl, rfl, HS⟩ := hrel
    have k0 : (0 : Int) ≤ (k : Int) := by omega
    by_cases hkn : k < len
    · have k1 : (k : Int) < (len : Int) := by omega
      obtain ⟨ad, rfl, hab, hcs⟩ := (HA.out.below HS.out.2) (by omega)
      have hc := hcs k hkn
      have HSN := Lib.hid (evs_succ g k)
      generalize g k = x at hc HSN
      clear hcs hab
      have q0 : wr.cell? (ad.add (k * 12)) = some (.int .i64 x.k) := hc 0 _ rfl
      have q1 : wr.cell? ⟨(ad.add (k * 12)).block, (ad.add (k * 12)).off + 1, none⟩ = some (.int .i64 x.w) := by rw [← addp _ 1 (by decide) (World.cell?_spot q0), add_of_add]; exact hc 1 _ rfl
      have q2 : wr.cell? ⟨(ad.add (k * 12)).block, (ad.add (k * 12)).off + 2, none⟩ = some (.int .i64 x.n) := by rw [← addp _ 2 (by decide) (World.cell?_spot q0), add_of_add]; exact hc 2 _ rfl
      have q3 : wr.cell? ⟨(ad.add (k * 12)).block, (ad.add (k * 12)).off + 3, none⟩ = some (.int .i64 x.ak) := by rw [← addp _ 3 (by decide) (World.cell?_spot q0), add_of_add]; exact hc 3 _ rfl
      have q4 : wr.cell? ⟨(ad.add (k * 12)).block, (ad.add (k * 12)).off + 4, none⟩ = some (.int .i64 x.ai) := by rw [← addp _ 4 (by decide) (World.cell?_spot q0), add_of_add]; exact hc 4 _ rfl
      have q5 : wr.cell? ⟨(ad.add (k * 12)).block, (ad.add (k * 12)).off + 5, none⟩ = some (.int .i64 x.ac) := by rw [← addp _ 5 (by decide) (World.cell?_spot q0), add_of_add]; exact hc 5 _ rfl
      have q6 : wr.cell? ⟨(ad.add (k * 12)).block, (ad.add (k * 12)).off + 6, none⟩ = some (.int .i64 x.an) := by rw [← addp _ 6 (by decide) (World.cell?_spot q0), add_of_add]; exact hc 6 _ rfl
      have q7 : wr.cell? ⟨(ad.add (k * 12)).block, (ad.add (k * 12)).off + 7, none⟩ = some (.int .i64 x.sd) := by rw [← addp _ 7 (by decide) (World.cell?_spot q0), add_of_add]; exact hc 7 _ rfl
      have q8 : wr.cell? ⟨(ad.add (k * 12)).block, (ad.add (k * 12)).off + 8, none⟩ = some (.int .i64 x.ap) := by rw [← addp _ 8 (by decide) (World.cell?_spot q0), add_of_add]; exact hc 8 _ rfl
      have q9 : wr.cell? ⟨(ad.add (k * 12)).block, (ad.add (k * 12)).off + 9, none⟩ = some (.int .i64 x.al) := by rw [← addp _ 9 (by decide) (World.cell?_spot q0), add_of_add]; exact hc 9 _ rfl
      have q10 : wr.cell? ⟨(ad.add (k * 12)).block, (ad.add (k * 12)).off + 10, none⟩ = some (.int .i64 x.au) := by rw [← addp _ 10 (by decide) (World.cell?_spot q0), add_of_add]; exact hc 10 _ rfl
      have q11 : wr.cell? ⟨(ad.add (k * 12)).block, (ad.add (k * 12)).off + 11, none⟩ = some (.int .i64 x.aq) := by rw [← addp _ 11 (by decide) (World.cell?_spot q0), add_of_add]; exact hc 11 _ rfl
      clear hc
      have N1 := Lib.hid (show k + 1 ≤ maxLen from by unfold maxLen; omega)
      have N2 := Lib.hid (show (k + 1) * 96 ≤ 140737488355328 from by omega)
      have NV := Lib.hid (nc_one x)
      go_wp2_with fail
      refine (HT.out x.k x.w x.n x.ak x.ai x.ac x.an x.sd x.ap x.al x.au x.aq _).mono ?_
      rintro e w3 ⟨rfl, hb3⟩
      have hBa := HS.out.2.alloc HS.out.2.size (Obj.cells (List.toArray [.int .i64 x.k, .int .i64 x.w, .int .i64 x.n, .int .i64 x.ak, .int .i64 x.ai, .int .i64 x.ac, .int .i64 x.an, .int .i64 x.sd, .int .i64 x.ap, .int .i64 x.al, .int .i64 x.au, .int .i64 x.aq]) 42)
      have hOa := HS.out.1.alloc (Obj.cells (List.toArray [.int .i64 x.k, .int .i64 x.w, .int .i64 x.n, .int .i64 x.ak, .int .i64 x.ai, .int .i64 x.ac, .int .i64 x.an, .int .i64 x.sd, .int .i64 x.ap, .int .i64 x.al, .int .i64 x.au, .int .i64 x.aq]) 42)
      have hB3 := Below.step hBa hb3
      have hO3 := rkept hOa hb3
      have HO1 := Lib.hid (World.ownsRow.alloc hO3 (Obj.cells (List.toArray [.int .i64 x.k, .int .i64 x.w, .int .i64 x.n, .int .i64 x.ak, .int .i64 x.ai, .int .i64 x.ac, .int .i64 x.an, .int .i64 x.sd, .int .i64 x.ap, .int .i64 x.al, .int .i64 x.au, .int .i64 x.aq]) 38))
      have HR := Lib.hid (reads_newN w3 1 12 (nc x) 38 rfl)
      have N3 := Lib.hid (show w.heap.size ≤ (w3.alloc (Obj.cells (List.toArray [.int .i64 x.k, .int .i64 x.w, .int .i64 x.n, .int .i64 x.ak, .int .i64 x.ai, .int .i64 x.ac, .int .i64 x.an, .int .i64 x.sd, .int .i64 x.ap, .int .i64 x.al, .int .i64 x.au, .int .i64 x.aq]) 38)).heap.size from by rw [World.size_alloc]; have := hB3.size; omega)
      have HB3 := Lib.hid hB3
      clear hBa hOa hb3 hO3 hB3
      go_wp2_with (at_builtin; refine wpList_append_any _ rfl (.tmp 12) (.tmp 15) 24 rfl w.heap.size 38 i0 (Value.agg #[.int .i64 0, .int .i64 0, .int .i64 0, .int .i64 0, .int .i64 0, .int .i64 0, .int .i64 0, .int .i64 0, .int .i64 0, .int .i64 0, .int .i64 0, .int .i64 0]) 12 96 Try.underlying24 HI0.out HZ0.out HZ1.out HZ2.out rfl (by decide) _ k (nv (evs g k)) rfl HO1.out _ (some ⟨w3.heap.size, 0, none⟩) 1 1 _ rfl HR.out NV.out N1.out N2.out N3.out ?_; intro v6 w6 hown6 hgrow6 hblk6; have HP := Lib.hid (And.intro hown6 hgrow6); clear hown6 hgrow6 hblk6)
      go_roundw
      case rel =>
        obtain ⟨A3, c3, hv⟩ := oshape HP.out.1
        refine ⟨k + 1, A3, c3, by omega, by go_num, hv, Lib.hid ⟨?_, Below.grown (HB3.out.alloc HB3.out.size _) HP.out.2 N3.out (fun g e => (HO1.out.lt g e).1)⟩⟩
        rw [HSN.out, nv_snoc, ← hv]
        exact HP.out.1
      case measure => simp [intOf]; omega
    · obtain rfl : k = len := by omega
      go_wp2_with fail
      go_ret
      exact ⟨_, _, rfl, HS.out.1, HS.out.2⟩
end Go.Proofs.Ytfdjbhlpkfbgnaa

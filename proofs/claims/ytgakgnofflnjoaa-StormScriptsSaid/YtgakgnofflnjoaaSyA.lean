/-
  The document's events, as the program has them.
-/
import Derived.Test.YtgakgnofflnjoaaRows
import Derived.Test.YtgakgnofflnjoaaKit
import Derived.Test.YtgakgnofflnjoaaApp
import Derived.Test.YtgakgnofflnjoaaQuiet
import Derived.Test.YtgakgnofflnjoaaSt
import Derived.Test.YtgakgnofflnjoaaStA
import Derived.Test.YtgakgnofflnjoaaSxP
import Derived.Test.YtgakgnofflnjoaaSxA
import Derived.Test.YtgakgnofflnjoaaSxB
import Derived.Test.YtgakgnofflnjoaaSxT
import Derived.WalkKit
import Derived.ProofKit
import Derived.OpenShut
import Derived.ShutString
import Derived.Below
import Derived.Outline
import Derived.WalkLawsBesides
import Derived.WalkSpells
import Derived.Handy
import Derived.Deep.QuietTactic
import Derived.BigQuiet
import Derived.RegionTactic
import Derived.ChangeAlike
import Derived.Lib.Hide
import Derived.Laws.Rows
import Derived.Laws.Tables
import Derived.Laws.CopyOwn
import Derived.Laws.MakeOwn
import Derived.Laws.Entries
import Derived.Laws.OwnMore
import Derived.Deep.WholeRow
import Derived.Deep.LoopGhost
import Derived.Deep.AppendLies
import Derived.Deep.Draws
import Derived.Maps.AppendAt
import Derived.OwnWalk
import Derived.Deep.RegionHeld3
import Derived.Deep.Cut
import Derived.Deep.CutRange
import Derived.Deep.DeepCutAuto
import Derived.Deep.CutBlock
import Derived.Lib.SliceRun
import Derived.IntWalk
namespace Go.Proofs.Ytgakgnofflnjoaa
open Go.ChangeShapes Go.WideShapes Go.ChangeAt Go.RowKit
theorem to11 (k i c a1 a2 a3 a4 a5 q : Int) (w : World) : Calls Try.prog 29 #[.agg #[.int .i64 k, .int .i64 i, .int .i64 c, .int .i64 a1, .int .i64 a2, .int .i64 a3, .int .i64 a4, .int .i64 a5, .int .i64 q]] w fun e w' => e = .returned (.agg #[.int .i64 k, .int .i64 i, .int .i64 c, .int .i64 a1, .int .i64 a2, .int .i64 a3, .int .i64 a4, .int .i64 a5, .int .i64 q]) ∧ Below w.heap.size w w' := by
  go_enter Try.func29, Try.ntmps29
  go_wp2
  refine bodyPost_ret (by simp [results, Try.results29, go_sem]; try rfl) rfl ⟨rfl, ?_⟩
  go_grown
theorem ret_of {K : Act → World → Prop} {Q : Exit → Act → World → Prop} {a : Act} {w : World} (hk : ∀ a w, Code.wp Try.prog Code.ret Q a w → K a w) (h : Code.wp Try.prog Code.ret Q a w) : Exit.then K Q .normal a w := hk a w h
set_option maxHeartbeats 4000000 in
theorem to13 (q0 q1 q2 q3 q4 q5 q6 q7 q8 q9 q10 q11 : Int) (w : World) : Calls Try.prog 18 #[.agg #[.int .i64 q0, .int .i64 q1, .int .i64 q2, .int .i64 q3, .int .i64 q4, .int .i64 q5, .int .i64 q6, .int .i64 q7, .int .i64 q8, .int .i64 q9, .int .i64 q10, .int .i64 q11]] w fun e w' => e = .returned (.agg #[.int .i64 q0, .int .i64 q1, .int .i64 q2, .int .i64 q3, .int .i64 q4, .int .i64 q5, .int .i64 q6, .int .i64 q7, .int .i64 q8, .int .i64 q9, .int .i64 q10, .int .i64 q11]) ∧ Below w.heap.size w w' := by
  have HT := Lib.hid (fun W => to11 q3 q4 q5 q6 q7 q8 q9 q10 q11 W)
  go_enter Try.func18, Try.ntmps18
  go_wp2_with fail
  have b1 := Bl.new w [.int .i64 q0, .int .i64 q1, .int .i64 q2, .int .i64 q3, .int .i64 q4, .int .i64 q5, .int .i64 q6, .int .i64 q7, .int .i64 q8, .int .i64 q9, .int .i64 q10, .int .i64 q11] 67
  have s1 : (w.alloc (.cells #[.int .i64 q0, .int .i64 q1, .int .i64 q2, .int .i64 q3, .int .i64 q4, .int .i64 q5, .int .i64 q6, .int .i64 q7, .int .i64 q8, .int .i64 q9, .int .i64 q10, .int .i64 q11] 67)).heap.size = w.heap.size + 1 := World.size_alloc ..
  have g1 : Below w.heap.size w (w.alloc (.cells #[.int .i64 q0, .int .i64 q1, .int .i64 q2, .int .i64 q3, .int .i64 q4, .int .i64 q5, .int .i64 q6, .int .i64 q7, .int .i64 q8, .int .i64 q9, .int .i64 q10, .int .i64 q11] 67)) := by go_grown
  generalize w.alloc (.cells #[.int .i64 q0, .int .i64 q1, .int .i64 q2, .int .i64 q3, .int .i64 q4, .int .i64 q5, .int .i64 q6, .int .i64 q7, .int .i64 q8, .int .i64 q9, .int .i64 q10, .int .i64 q11] 67) = w1 at *
  have b2 := Bl.new w1 [.int .i64 0, .int .i64 0, .int .i64 0, .int .i64 0, .int .i64 0, .int .i64 0, .int .i64 0, .int .i64 0, .int .i64 0, .int .i64 0, .int .i64 0, .int .i64 0] 47
  have g3 : Below w1.heap.size w1 (w1.alloc (.cells #[.int .i64 0, .int .i64 0, .int .i64 0, .int .i64 0, .int .i64 0, .int .i64 0, .int .i64 0, .int .i64 0, .int .i64 0, .int .i64 0, .int .i64 0, .int .i64 0] 47)) := by go_grown
  have g2 := Below.step g1 g3
  have b1 := b1.below g3
  generalize w1.alloc (.cells #[.int .i64 0, .int .i64 0, .int .i64 0, .int .i64 0, .int .i64 0, .int .i64 0, .int .i64 0, .int .i64 0, .int .i64 0, .int .i64 0, .int .i64 0, .int .i64 0] 47) = w2 at *
  rw [s1] at b2
  have b1 := b1.below (Below.drew (Below.refl _ _))
  have b2 := b2.below (Below.drew (Below.refl _ _))
  have g2 := Below.drew g2
  have hne : w.heap.size + 1 ≠ w.heap.size := by omega
  have hS := (And.intro (b1.cell 0 _ rfl) (And.intro (b1.cell 1 _ rfl) (And.intro (b1.cell 2 _ rfl) (And.intro (b1.cell 3 _ rfl) (And.intro (b1.cell 4 _ rfl) (And.intro (b1.cell 5 _ rfl) (And.intro (b1.cell 6 _ rfl) (And.intro (b1.cell 7 _ rfl) (And.intro (b1.cell 8 _ rfl) (And.intro (b1.cell 9 _ rfl) (And.intro (b1.cell 10 _ rfl) (And.intro (b1.cell 11 _ rfl) (And.intro (b2.frz 0) (And.intro (b2.frz 1) (And.intro (b2.frz 2) (And.intro (b2.frz 3) (And.intro (b2.frz 4) (And.intro (b2.frz 5) (And.intro (b2.frz 6) (And.intro (b2.frz 7) (And.intro (b2.frz 8) (And.intro (b2.frz 9) (And.intro (b2.frz 10) (b2.frz 11))))))))))))))))))))))))
  clear g3 s1
  go_region_held3 (fun w' => w'.cell? ⟨w.heap.size, 0, none⟩ = some (.int .i64 q0) ∧ w'.cell? ⟨w.heap.size, 1, none⟩ = some (.int .i64 q1) ∧ w'.cell? ⟨w.heap.size, 2, none⟩ = some (.int .i64 q2) ∧ w'.cell? ⟨w.heap.size, 3, none⟩ = some (.int .i64 q3) ∧ w'.cell? ⟨w.heap.size, 4, none⟩ = some (.int .i64 q4) ∧ w'.cell? ⟨w.heap.size, 5, none⟩ = some (.int .i64 q5) ∧ w'.cell? ⟨w.heap.size, 6, none⟩ = some (.int .i64 q6) ∧ w'.cell? ⟨w.heap.size, 7, none⟩ = some (.int .i64 q7) ∧ w'.cell? ⟨w.heap.size, 8, none⟩ = some (.int .i64 q8) ∧ w'.cell? ⟨w.heap.size, 9, none⟩ = some (.int .i64 q9) ∧ w'.cell? ⟨w.heap.size, 10, none⟩ = some (.int .i64 q10) ∧ w'.cell? ⟨w.heap.size, 11, none⟩ = some (.int .i64 q11) ∧ w'.frozen? ⟨w.heap.size + 1, 0, none⟩ = false ∧ w'.frozen? ⟨w.heap.size + 1, 1, none⟩ = false ∧ w'.frozen? ⟨w.heap.size + 1, 2, none⟩ = false ∧ w'.frozen? ⟨w.heap.size + 1, 3, none⟩ = false ∧ w'.frozen? ⟨w.heap.size + 1, 4, none⟩ = false ∧ w'.frozen? ⟨w.heap.size + 1, 5, none⟩ = false ∧ w'.frozen? ⟨w.heap.size + 1, 6, none⟩ = false ∧ w'.frozen? ⟨w.heap.size + 1, 7, none⟩ = false ∧ w'.frozen? ⟨w.heap.size + 1, 8, none⟩ = false ∧ w'.frozen? ⟨w.heap.size + 1, 9, none⟩ = false ∧ w'.frozen? ⟨w.heap.size + 1, 10, none⟩ = false ∧ w'.frozen? ⟨w.heap.size + 1, 11, none⟩ = false) (first | with_reducible exact hS | with_reducible exact hSx | fail) (first | (go_at_call 29; (with_reducible refine (HT.out _).mono ?_); rintro e w3 ⟨rfl, hb3⟩; have b1 := b1.below hb3; have b2 := b2.below hb3; have g2 := Below.step g2 hb3; have hS := (And.intro (b1.cell 0 _ rfl) (And.intro (b1.cell 1 _ rfl) (And.intro (b1.cell 2 _ rfl) (And.intro (b1.cell 3 _ rfl) (And.intro (b1.cell 4 _ rfl) (And.intro (b1.cell 5 _ rfl) (And.intro (b1.cell 6 _ rfl) (And.intro (b1.cell 7 _ rfl) (And.intro (b1.cell 8 _ rfl) (And.intro (b1.cell 9 _ rfl) (And.intro (b1.cell 10 _ rfl) (And.intro (b1.cell 11 _ rfl) (And.intro (b2.frz 0) (And.intro (b2.frz 1) (And.intro (b2.frz 2) (And.intro (b2.frz 3) (And.intro (b2.frz 4) (And.intro (b2.frz 5) (And.intro (b2.frz 6) (And.intro (b2.frz 7) (And.intro (b2.frz 8) (And.intro (b2.frz 9) (And.intro (b2.frz 10) (b2.frz 11)))))))))))))))))))))))); have z0 := b2.cell 0 _ rfl; have y0 := b2.frz 0; have z1 := b2.cell 1 _ rfl; have y1 := b2.frz 1; have z2 := b2.cell 2 _ rfl; have y2 := b2.frz 2; have z3 := b2.cell 3 _ rfl; have y3 := b2.frz 3; have z4 := b2.cell 4 _ rfl; have y4 := b2.frz 4; have z5 := b2.cell 5 _ rfl; have y5 := b2.frz 5; have z6 := b2.cell 6 _ rfl; have y6 := b2.frz 6; have z7 := b2.cell 7 _ rfl; have y7 := b2.frz 7; have z8 := b2.cell 8 _ rfl; have y8 := b2.frz 8; have z9 := b2.cell 9 _ rfl; have y9 := b2.frz 9; have z10 := b2.cell 10 _ rfl; have y10 := b2.frz 10; have z11 := b2.cell 11 _ rfl; have y11 := b2.frz 11; have b1x := ((((((((((((b1.far (p := ⟨w.heap.size + 1, 0, none⟩) hne (.int .i64 q0)).far (p := ⟨w.heap.size + 1, 1, none⟩) hne (.int .i64 q1)).far (p := ⟨w.heap.size + 1, 2, none⟩) hne (.int .i64 q2)).far (p := ⟨w.heap.size + 1, 3, none⟩) hne (.int .i64 q3)).far (p := ⟨w.heap.size + 1, 4, none⟩) hne (.int .i64 q4)).far (p := ⟨w.heap.size + 1, 5, none⟩) hne (.int .i64 q5)).far (p := ⟨w.heap.size + 1, 6, none⟩) hne (.int .i64 q6)).far (p := ⟨w.heap.size + 1, 7, none⟩) hne (.int .i64 q7)).far (p := ⟨w.heap.size + 1, 8, none⟩) hne (.int .i64 q8)).far (p := ⟨w.heap.size + 1, 9, none⟩) hne (.int .i64 q9)).far (p := ⟨w.heap.size + 1, 10, none⟩) hne (.int .i64 q10)).far (p := ⟨w.heap.size + 1, 11, none⟩) hne (.int .i64 q11)); have b2x := ((((((((((((b2.set 0 (.int .i64 q0)).set 1 (.int .i64 q1)).set 2 (.int .i64 q2)).set 3 (.int .i64 q3)).set 4 (.int .i64 q4)).set 5 (.int .i64 q5)).set 6 (.int .i64 q6)).set 7 (.int .i64 q7)).set 8 (.int .i64 q8)).set 9 (.int .i64 q9)).set 10 (.int .i64 q10)).set 11 (.int .i64 q11)); have hSx := (And.intro (b1x.cell 0 _ rfl) (And.intro (b1x.cell 1 _ rfl) (And.intro (b1x.cell 2 _ rfl) (And.intro (b1x.cell 3 _ rfl) (And.intro (b1x.cell 4 _ rfl) (And.intro (b1x.cell 5 _ rfl) (And.intro (b1x.cell 6 _ rfl) (And.intro (b1x.cell 7 _ rfl) (And.intro (b1x.cell 8 _ rfl) (And.intro (b1x.cell 9 _ rfl) (And.intro (b1x.cell 10 _ rfl) (And.intro (b1x.cell 11 _ rfl) (And.intro (b2x.frz 0) (And.intro (b2x.frz 1) (And.intro (b2x.frz 2) (And.intro (b2x.frz 3) (And.intro (b2x.frz 4) (And.intro (b2x.frz 5) (And.intro (b2x.frz 6) (And.intro (b2x.frz 7) (And.intro (b2x.frz 8) (And.intro (b2x.frz 9) (And.intro (b2x.frz 10) (b2x.frz 11)))))))))))))))))))))))); have gx := (Below.setCell (p := ⟨w.heap.size + 1, 11, none⟩) (Below.setCell (p := ⟨w.heap.size + 1, 10, none⟩) (Below.setCell (p := ⟨w.heap.size + 1, 9, none⟩) (Below.setCell (p := ⟨w.heap.size + 1, 8, none⟩) (Below.setCell (p := ⟨w.heap.size + 1, 7, none⟩) (Below.setCell (p := ⟨w.heap.size + 1, 6, none⟩) (Below.setCell (p := ⟨w.heap.size + 1, 5, none⟩) (Below.setCell (p := ⟨w.heap.size + 1, 4, none⟩) (Below.setCell (p := ⟨w.heap.size + 1, 3, none⟩) (Below.setCell (p := ⟨w.heap.size + 1, 2, none⟩) (Below.setCell (p := ⟨w.heap.size + 1, 1, none⟩) (Below.setCell (p := ⟨w.heap.size + 1, 0, none⟩) g2 (Nat.le_add_right _ 1) (.int .i64 q0)) (Nat.le_add_right _ 1) (.int .i64 q1)) (Nat.le_add_right _ 1) (.int .i64 q2)) (Nat.le_add_right _ 1) (.int .i64 q3)) (Nat.le_add_right _ 1) (.int .i64 q4)) (Nat.le_add_right _ 1) (.int .i64 q5)) (Nat.le_add_right _ 1) (.int .i64 q6)) (Nat.le_add_right _ 1) (.int .i64 q7)) (Nat.le_add_right _ 1) (.int .i64 q8)) (Nat.le_add_right _ 1) (.int .i64 q9)) (Nat.le_add_right _ 1) (.int .i64 q10)) (Nat.le_add_right _ 1) (.int .i64 q11)); clear hb3) | fail)
  all_goals (obtain ⟨tt, ht⟩ := b2x)
  all_goals (have HH := Lib.hid (And.intro ht gx); clear ht gx hSx b1x hS hne b1 b2 g2 z0 y0 z1 y1 z2 y2 z3 y3 z4 y4 z5 y5 z6 y6 z7 y7 z8 y8 z9 y9 z10 y10 z11 y11)
  all_goals (apply ret_of)
  all_goals (first | assumption | skip)
  all_goals (generalize ((((((((((((w3.setCell ⟨w.heap.size + 1, 0, none⟩ (.int .i64 q0)).setCell ⟨w.heap.size + 1, 1, none⟩ (.int .i64 q1)).setCell ⟨w.heap.size + 1, 2, none⟩ (.int .i64 q2)).setCell ⟨w.heap.size + 1, 3, none⟩ (.int .i64 q3)).setCell ⟨w.heap.size + 1, 4, none⟩ (.int .i64 q4)).setCell ⟨w.heap.size + 1, 5, none⟩ (.int .i64 q5)).setCell ⟨w.heap.size + 1, 6, none⟩ (.int .i64 q6)).setCell ⟨w.heap.size + 1, 7, none⟩ (.int .i64 q7)).setCell ⟨w.heap.size + 1, 8, none⟩ (.int .i64 q8)).setCell ⟨w.heap.size + 1, 9, none⟩ (.int .i64 q9)).setCell ⟨w.heap.size + 1, 10, none⟩ (.int .i64 q10)).setCell ⟨w.heap.size + 1, 11, none⟩ (.int .i64 q11)) = wz at *)
  all_goals (go_wp2_with fail)
  all_goals (refine bodyPost_ret (results_cell_row rfl _ _ (w.heap.size + 1) _ _ (0, 0) _ rfl HH.out.1 Try.underlying47 rfl (by kernel_rfl)) rfl ⟨rfl, HH.out.2⟩)
theorem flat_get : ∀ (L : List (List Int)) (k j : Nat) (x : List Int), (∀ x ∈ L, x.length = 12) → L[k]? = some x → j < 12 → L.flatten[k * 12 + j]? = x[j]?
  | [], k, j, x, _, h, _ => by cases h
  | y :: L, 0, j, x, h, hx, hj => by
    have hy := h y (List.mem_cons_self ..)
    obtain rfl : y = x := by simpa using hx
    rw [List.flatten_cons, Nat.zero_mul, Nat.zero_add, List.getElem?_append_left (by omega)]
  | y :: L, k + 1, j, x, h, hx, hj => by
    have hy := h y (List.mem_cons_self ..)
    rw [List.flatten_cons, List.getElem?_append_right (by omega), hy, show (k + 1) * 12 + j - 12 = k * 12 + j from by omega]
    exact flat_get L k j x (fun z hz => h z (List.mem_cons_of_mem _ hz)) (by simpa using hx) hj
theorem lst12 {α : Type} {l : List α} (h : l.length = 12) : ∃ q0 q1 q2 q3 q4 q5 q6 q7 q8 q9 q10 q11, l = [q0, q1, q2, q3, q4, q5, q6, q7, q8, q9, q10, q11] := by
  match l, h with
  | [q0, q1, q2, q3, q4, q5, q6, q7, q8, q9, q10, q11], _ => exact ⟨q0, q1, q2, q3, q4, q5, q6, q7, q8, q9, q10, q11, rfl⟩
set_option maxRecDepth 100000 in
set_option maxHeartbeats 8000000 in
theorem all_is (base cap : Nat) (A : Option Addr) (L : List (List Int)) (w : World) (h : w.ownsRow base 67 12 (.slice A L.length cap) L.length (lv L)) (h12 : ∀ x ∈ L, x.length = 12) (hl : L.length ≤ 70000) : Calls Try.prog 10 #[.slice A L.length cap] w fun e w' => ∃ A' c', e = .returned (.slice A' L.length c') ∧ w'.ownsRow w.heap.size 47 12 (.slice A' L.length c') L.length (lv L) ∧ Below w.heap.size w w' := by
  obtain ⟨i0, hi, hz0, hz1, hz2⟩ := info_parts infoE
  have HI := Lib.hid hi
  have HZ0 := Lib.hid hz0
  have HZ1 := Lib.hid hz1
  have HZ2 := Lib.hid hz2
  clear hi hz0 hz1 hz2
  have H := Lib.hid h
  have H12 := Lib.hid h12
  clear h h12
  have HT := Lib.hid to13
  go_enter Try.func10, Try.ntmps10
  go_wp2_with fail
  go_loopw [3, 8] (fun v i wr => ∃ k : Nat, k ≤ L.length ∧ i = .int .i64 (k : Int) ∧ Hid (wr.ownsRow w.heap.size 47 12 v k (lv (L.take k))) ∧ Below w.heap.size w wr) (fun _ i _ => L.length + 1 - (intOf i).toNat)
  case atStart => exact ⟨0, Nat.zero_le _, rfl, ⟨rfl, .inl ⟨rfl, rfl⟩⟩, Below.refl _ _⟩
  case round =>
    obtain ⟨k, hk, rfl, HO, hB⟩ := hrel
    by_cases hlt : k < L.length
    · obtain ⟨x, hx⟩ : ∃ e, L[k]? = some e := ⟨_, List.getElem?_eq_getElem hlt⟩
      obtain ⟨q0, q1, q2, q3, q4, q5, q6, q7, q8, q9, q10, q11, rfl⟩ := lst12 (H12.out x (List.mem_of_getElem? hx))
      obtain ⟨g, cp, hv, hg1, hg2⟩ := World.ownsRow.form H.out (by omega)
      obtain ⟨rfl, rfl⟩ : A = some ⟨g, 0, none⟩ ∧ cp = cap := by
        injection hv with h1 h2 h3
        exact ⟨h1, h3.symm⟩
      clear hv
      have hcell : ∀ j u, j < 12 → ([q0, q1, q2, q3, q4, q5, q6, q7, q8, q9, q10, q11] : List Int)[j]? = some u → wr.cell? ⟨g, k * 12 + j, none⟩ = some (.int .i64 u) := fun j u hj hu => by
        have h1 := flat_get L k j _ H12.out hx hj
        rw [hu] at h1
        have h2 : (lv L)[k * 12 + j]? = some (.int .i64 u) := by unfold lv; rw [List.getElem?_map, h1]; rfl
        exact (hB.cell (p := ⟨g, k * 12 + j, none⟩) hg2).trans ((World.ownsRow.cellAt H.out (k * 12 + j) (by omega)).trans h2)
      have c0 : wr.cell? ⟨g, k * 12, none⟩ = some (.int .i64 q0) := hcell 0 _ (by omega) rfl
      have c1 : wr.cell? ⟨g, k * 12 + 1, none⟩ = some (.int .i64 q1) := hcell 1 _ (by omega) rfl
      have c2 : wr.cell? ⟨g, k * 12 + 2, none⟩ = some (.int .i64 q2) := hcell 2 _ (by omega) rfl
      have c3 : wr.cell? ⟨g, k * 12 + 3, none⟩ = some (.int .i64 q3) := hcell 3 _ (by omega) rfl
      have c4 : wr.cell? ⟨g, k * 12 + 4, none⟩ = some (.int .i64 q4) := hcell 4 _ (by omega) rfl
      have c5 : wr.cell? ⟨g, k * 12 + 5, none⟩ = some (.int .i64 q5) := hcell 5 _ (by omega) rfl
      have c6 : wr.cell? ⟨g, k * 12 + 6, none⟩ = some (.int .i64 q6) := hcell 6 _ (by omega) rfl
      have c7 : wr.cell? ⟨g, k * 12 + 7, none⟩ = some (.int .i64 q7) := hcell 7 _ (by omega) rfl
      have c8 : wr.cell? ⟨g, k * 12 + 8, none⟩ = some (.int .i64 q8) := hcell 8 _ (by omega) rfl
      have c9 : wr.cell? ⟨g, k * 12 + 9, none⟩ = some (.int .i64 q9) := hcell 9 _ (by omega) rfl
      have c10 : wr.cell? ⟨g, k * 12 + 10, none⟩ = some (.int .i64 q10) := hcell 10 _ (by omega) rfl
      have c11 : wr.cell? ⟨g, k * 12 + 11, none⟩ = some (.int .i64 q11) := hcell 11 _ (by omega) rfl
      have k0 : (0 : Int) ≤ (k : Int) := by omega
      have k1 : (k : Int) < (L.length : Int) := by omega
      have k2 : (L.length : Int) ≤ 70000 := by omega
      have HL := Lib.hid (show lv (L.take (k + 1)) = lv (L.take k) ++ ([q0, q1, q2, q3, q4, q5, q6, q7, q8, q9, q10, q11] : List Int).map (Value.int .i64) from by rw [List.take_add_one, hx]; exact lv_snoc _ _)
      have N1 := Lib.hid (show k + 1 ≤ maxLen from by unfold maxLen; omega)
      have N2 := Lib.hid (show (k + 1) * 96 ≤ 140737488355328 from by omega)
      have NV := Lib.hid (show ∀ zz ∈ [Value.int .i64 q0, .int .i64 q1, .int .i64 q2, .int .i64 q3, .int .i64 q4, .int .i64 q5, .int .i64 q6, .int .i64 q7, .int .i64 q8, .int .i64 q9, .int .i64 q10, .int .i64 q11], zz.oneCell' = true from ints_one [q0, q1, q2, q3, q4, q5, q6, q7, q8, q9, q10, q11])
      clear hcell hx
      go_wp2_with fail
      refine (HT.out q0 q1 q2 q3 q4 q5 q6 q7 q8 q9 q10 q11 _).mono ?_
      rintro e w3 ⟨rfl, hb3⟩
      have hBa := hB.alloc hB.size (Obj.cells #[.int .i64 q0, .int .i64 q1, .int .i64 q2, .int .i64 q3, .int .i64 q4, .int .i64 q5, .int .i64 q6, .int .i64 q7, .int .i64 q8, .int .i64 q9, .int .i64 q10, .int .i64 q11] 67)
      have hOa := HO.out.alloc (Obj.cells #[.int .i64 q0, .int .i64 q1, .int .i64 q2, .int .i64 q3, .int .i64 q4, .int .i64 q5, .int .i64 q6, .int .i64 q7, .int .i64 q8, .int .i64 q9, .int .i64 q10, .int .i64 q11] 67)
      have hB3 := Below.step hBa hb3
      have hO3 := row_kept hOa hb3
      have HO1 := Lib.hid (World.ownsRow.alloc hO3 (Obj.cells #[.int .i64 q0, .int .i64 q1, .int .i64 q2, .int .i64 q3, .int .i64 q4, .int .i64 q5, .int .i64 q6, .int .i64 q7, .int .i64 q8, .int .i64 q9, .int .i64 q10, .int .i64 q11] 47))
      have HR := Lib.hid (reads_newN w3 1 12 [.int .i64 q0, .int .i64 q1, .int .i64 q2, .int .i64 q3, .int .i64 q4, .int .i64 q5, .int .i64 q6, .int .i64 q7, .int .i64 q8, .int .i64 q9, .int .i64 q10, .int .i64 q11] 47 rfl)
      have N3' := Lib.hid (show w.heap.size ≤ (w3.alloc (Obj.cells #[.int .i64 q0, .int .i64 q1, .int .i64 q2, .int .i64 q3, .int .i64 q4, .int .i64 q5, .int .i64 q6, .int .i64 q7, .int .i64 q8, .int .i64 q9, .int .i64 q10, .int .i64 q11] 47)).heap.size from by rw [World.size_alloc]; have := hB3.size; omega)
      have HB3 := Lib.hid hB3
      clear hBa hOa hb3 hO3 hB3 hB
      go_wp2_with (at_builtin; refine wpList_append_any _ rfl (.tmp 12) (.tmp 15) 36 rfl w.heap.size 47 i0 (Value.agg #[.int .i64 0, .int .i64 0, .int .i64 0, .int .i64 0, .int .i64 0, .int .i64 0, .int .i64 0, .int .i64 0, .int .i64 0, .int .i64 0, .int .i64 0, .int .i64 0]) 12 96 Try.underlying36 HI.out HZ0.out HZ1.out HZ2.out rfl (by decide) _ k (lv (L.take k)) rfl HO1.out _ (some ⟨w3.heap.size, 0, none⟩) 1 1 _ rfl HR.out NV.out N1.out N2.out N3'.out ?_; intro v6 w6 hown6 hgrow6 hblk6; have HP := Lib.hid (And.intro hown6 hgrow6); clear hown6 hgrow6 hblk6)
      go_roundw
      case rel => exact ⟨k + 1, by omega, by go_num, by have h := HP.out.1; refine Lib.hid ?_; rw [HL.out]; exact h, Below.grown (HB3.out.alloc HB3.out.size _) HP.out.2 N3'.out (fun g e => (HO1.out.lt g e).1)⟩
      case measure => simp [intOf]; omega
    · obtain rfl : k = L.length := by omega
      have hd : decide ((L.length : Int) < (L.length : Int)) = false := decide_eq_false (by omega)
      obtain ⟨A2, c2, rfl⟩ := own_shape HO.out
      go_wp2_with fail
      go_ret
      have h := HO.out
      rw [List.take_length] at h
      exact ⟨A2, c2, rfl, h, hB⟩
end Go.Proofs.Ytgakgnofflnjoaa

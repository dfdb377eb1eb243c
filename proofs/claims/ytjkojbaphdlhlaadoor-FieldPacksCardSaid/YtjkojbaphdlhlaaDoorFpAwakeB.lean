/-
  The example of the statements of layer 2; light.
-/
import Derived.Test.YtjkojbaphdlhlaaDoorRows
import Derived.WalkKit
import Derived.ProofKit
import Derived.OpenShut
import Derived.ShutString
import Derived.Below
import Derived.Outline
import Derived.WalkLawsBesides
import Derived.WalkSpells
import Derived.Handy
import Derived.Deep.QuietTactic
import Derived.BigQuiet
import Derived.RegionTactic
import Derived.ChangeAlike
import Derived.Lib.Hide
import Derived.Laws.Rows
import Derived.Laws.Tables
import Derived.Laws.CopyOwn
import Derived.Deep.WholeRow
import Derived.Deep.LoopGhost
import Derived.Laws.BitsAllLaws
import Derived.Laws.BitsLemmas
import Derived.IntWalk
import Derived.Test.YtjkojbaphdlhlaaDoorKit
import Derived.Test.YtjkojbaphdlhlaaDoorFpLay
import Derived.Test.YtjkojbaphdlhlaaDoorFpAny
import Derived.Test.YtjkojbaphdlhlaaDoorFpGet
namespace Go.Proofs.YtjkojbaphdlhlaaDoor.Fp
set_option linter.unusedVariables false
set_option linter.unusedSimpArgs false
open Go.ChangeShapes Go.WideShapes Go.ChangeAt Go.RowKit
def s2 : Nat → Int
  | 0 => 0 | 1 => 3 | 2 => 8 | _ => 0
theorem s2_steps : Steps 2 s2 := ⟨rfl, by decide, fun k hk => by match k, hk with | 0, _ | 1, _ => decide⟩
theorem s2_cut : (fun k => if k ≤ 2 then s2 k else 0) = s2 := by
  funext k
  by_cases h : k ≤ 2
  · rw [if_pos h]
  · rw [if_neg h]
    match k, h with
    | 0, h | 1, h | 2, h => exact absurd h (by decide)
    | n + 3, _ => rfl
theorem row2 (w : World) (t : TypeId) (a0 a1 : Int) (z : Nat → Int) (hz : z 0 = a0 ∧ z 1 = a1) (hb : ∀ k, k < 2 → -9223372036854775808 ≤ z k ∧ z k ≤ 9223372036854775807) :
    RowI (w.alloc (.cells #[.int .i64 a0, .int .i64 a1] t)) (some ⟨w.heap.size, 0, none⟩) 2 z := by
  obtain ⟨rfl, rfl⟩ := hz
  intro k hk
  refine ⟨w.heap.size, 0, rfl, by simp, ?_, (hb k hk).1, (hb k hk).2⟩
  match k, hk with
  | 0, _ => simp [go_sem]
  | 1, _ => simp [go_sem]
set_option maxRecDepth 100000 in
set_option maxHeartbeats 2000000 in
theorem awake02 (w : World) : Calls Tryd.prog 7 #[] w fun e w' => e = .returned (.bool true) ∧ Below w.heap.size w w' := by
  have hzero := zero70
  have hrow := row2 w 3 3 5 (fun k => if k = 0 then 3 else 5) ⟨rfl, rfl⟩ (fun k hk => by match k, hk with | 0, _ | 1, _ => decide)
  have HROW := Lib.hid hrow
  clear hrow
  go_enter Tryd.func7, Tryd.ntmps7
  go_wp2_with fail
  refine (new_ok _ 2 2 _ s2 _ HROW.out s2_steps (fun k hk => by match k, hk with | 0, _ | 1, _ => rfl)).mono ?_
  rintro e w1 ⟨cs, rfl, hL, hb1⟩
  rw [s2_cut] at hL
  have hB1 : Below w.heap.size w w1 := Below.step (by go_grown) hb1
  have HSZ := Lib.hid (lay_info hL)
  have HZS := Lib.hid (show Z0.size = cs.size from by rw [hL.size]; rfl)
  have HON := Lib.hid hL.one
  have g1 := heap_alloc_new w1 (Obj.cells Z0 28)
  have g2 := heap_setRow _ _ _ _ cs g1
  have HG1 := Lib.hid g1
  have HG2 := Lib.hid g2
  have HL := Lib.hid hL
  have hB2 : Below w.heap.size w ((w1.alloc (Obj.cells Z0 28)).setRow w1.heap.size cs) := below_setRow (hB1.alloc hB1.size _) hB1.size _
  have hrow2 := row2 ((w1.alloc (Obj.cells Z0 28)).setRow w1.heap.size cs) 3 1 2 (fun k => if k = 0 then 1 else 2) ⟨rfl, rfl⟩ (fun k hk => by match k, hk with | 0, _ | 1, _ => decide)
  have hsz2 : ((w1.alloc (Obj.cells Z0 28)).setRow w1.heap.size cs).heap.size = w1.heap.size + 1 := by simp [World.setRow]
  rw [hsz2] at hrow2
  have HROW2 := Lib.hid hrow2
  clear g1 g2 hL hb1 hrow2 hsz2
  go_wp2_with (first | (refine wpList_store_row rfl 28 _ _ rfl w1.heap.size cs rfl rfl 28 Z0 HG1.out HSZ.out HZS.out HON.out ?_) | (refine wpList_load_row rfl 28 _ rfl w1.heap.size rfl 28 _ (0, 0) _ HG2.out Tryd.underlying28 rfl HSZ.out ?_))
  refine (pack_ok HL.out s2_steps _ _ _ HROW2.out (fun k hk => by match k, hk with | 0, _ | 1, _ => decide)).mono ?_
  rintro e w3 ⟨rfl, hb3⟩
  have hB3 : Below w.heap.size w w3 := Below.step (hB2.alloc hB2.size _) hb3
  have HW := Lib.hid (show word s2 (fun k => if k = 0 then 1 else 2) 2 = 17 from by decide)
  rw [HW.out]
  go_wp2
  go_ret
  exact ⟨rfl, hB3⟩
theorem light02 (A : Option Addr) (n cap : Nat) (w : World) (hn : n ≤ 70) : Calls Tryd.prog 6 #[.slice A n cap] w fun e w' => e = .returned (.bool true) ∧ w = w' := by
  have hd : decide ((n : Int) ≤ 70) = true := decide_eq_true (by omega)
  go_enter Tryd.func6, Tryd.ntmps6
  go_wp2
  go_ret
  exact ⟨rfl, rfl⟩
theorem dark02 (A : Option Addr) (n cap : Nat) (w : World) (hn : 70 < n) : Calls Tryd.prog 6 #[.slice A n cap] w fun e w' => e = .returned (.bool false) ∧ w = w' := by
  have hd : decide ((n : Int) ≤ 70) = false := decide_eq_false (by omega)
  go_enter Tryd.func6, Tryd.ntmps6
  go_wp2
  go_ret
  exact ⟨rfl, rfl⟩
theorem steps_last {n : Nat} {s : Nat → Int} (h : Steps n s) : 0 ≤ s n ∧ s n ≤ 64 := by
  rcases Nat.eq_zero_or_pos n with h0 | h0
  · subst h0; rw [h.1]; exact ⟨Int.le_refl _, by decide⟩
  · have := h.2.2 (n - 1) (by omega)
    rw [show n - 1 + 1 = n by omega] at this
    omega
theorem row_of {w : World} {A : Option Addr} {len cap : Nat} {zs : List Int} (h : IsRow .i64 w A len cap zs) : RowI w A len (fun k => zs.getD k 0) := by
  intro k hk
  rcases h with ⟨rfl, rfl, rfl, rfl⟩ | ⟨x, rfl, hlc, hcm, hzl, hcell, hwz⟩
  · omega
  · obtain ⟨g, off, rfl, hc⟩ := ints_at hcell (by omega)
    have h := hc k (by omega)
    have hg : g < w.heap.size := by
      rcases Nat.lt_or_ge g w.heap.size with hlt | hge
      · exact hlt
      · exact absurd h (by simp [World.cell?, Array.getElem?_eq_none hge])
    have hw := bounds_i64 (hwz (zs.getD k 0) (by rw [List.getD_eq_getElem?_getD, List.getElem?_eq_getElem (by omega : k < zs.length)]; exact List.getElem_mem _))
    exact ⟨g, off, rfl, hg, h, hw.1, hw.2⟩
theorem len_le {w : World} {A : Option Addr} {len cap : Nat} {zs : List Int} (h : IsRow .i64 w A len cap zs) : len ≤ 9223372036854775807 := by
  rcases h with ⟨rfl, rfl, rfl, rfl⟩ | ⟨x, rfl, hlc, hcm, _⟩
  · omega
  · unfold maxLen at hcm; omega

theorem row_drew {A : Option Addr} {m : Nat} {z : Nat → Int} {w : World} (h : RowI w A m z) : RowI w.drew A m z := h
theorem cut_ws {n : Nat} (ws : Nat → Int) : ∀ k, k < n → (fun k => if k ≤ n then pre_ ws k else 0) (k + 1) = (fun k => if k ≤ n then pre_ ws k else 0) k + ws k := fun k hk => by
  dsimp only
  rw [if_pos (by omega), if_pos (by omega)]
  rfl
end Go.Proofs.YtjkojbaphdlhlaaDoor.Fp

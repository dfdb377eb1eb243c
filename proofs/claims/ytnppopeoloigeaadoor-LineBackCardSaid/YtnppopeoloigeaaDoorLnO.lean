/-
  Why what is asked can't be told.
-/
import Derived.Test.YtnppopeoloigeaaDoorRows
import Derived.Test.YtnppopeoloigeaaDoorKit
import Derived.Test.YtnppopeoloigeaaDoorApp
import Derived.Test.YtnppopeoloigeaaDoorQuiet
import Derived.WalkKit
import Derived.ProofKit
import Derived.OpenShut
import Derived.ShutString
import Derived.Below
import Derived.Outline
import Derived.WalkLawsBesides
import Derived.WalkSpells
import Derived.Handy
import Derived.Deep.QuietTactic
import Derived.BigQuiet
import Derived.RegionTactic
import Derived.ChangeAlike
import Derived.Lib.Hide
import Derived.Laws.Rows
import Derived.Laws.Tables
import Derived.Laws.CopyOwn
import Derived.Laws.MakeOwn
import Derived.Laws.Entries
import Derived.Laws.OwnMore
import Derived.Deep.WholeRow
import Derived.Deep.LoopGhost
import Derived.Deep.AppendLies
import Derived.Deep.Draws
import Derived.Maps.AppendAt
import Derived.OwnWalk
import Derived.Deep.RegionHeld3
import Derived.Deep.Cut
import Derived.Deep.CutRange
import Derived.Deep.DeepCutAuto
import Derived.Deep.CutBlock
import Derived.Lib.SliceRun
import Derived.IntWalk
import Derived.Laws.Strings
import Derived.Lib.Bytealg
import Derived.Lib.Strings
import Derived.Laws.Externs
import Derived.Test.YtnppopeoloigeaaDoorLnJ
import Derived.Test.YtnppopeoloigeaaDoorLnF
import Derived.Test.YtnppopeoloigeaaDoorLnK
import Derived.Deep.Slices
import Derived.Deep.Fields
import Derived.ChangeSame
import Derived.ChangeArms
import Derived.Deep.MidRow
import Derived.Deep.Upon
namespace Go.Proofs.YtnppopeoloigeaaDoor
open Go.ChangeShapes Go.WideShapes Go.ChangeAt Go.RowKit
/-- What untold hands back. -/
def UnIs (o : Option (Int × Int)) (w : World) (e : Ending) (w' : World) : Prop := match o with
  | none => e = .returned .nilIface ∧ Below w.heap.size w w'
  | some (x, p) => ∃ v, e = .returned v ∧ Er w' x p v ∧ Below w.heap.size w w'
theorem un_skip (c : List Int) (j : Nat) (t : List (Nat × Bool)) (a : Nat) : un c ((j, true) :: t) a = un c t a := rfl
theorem un_num (c : List Int) (j : Nat) (t : List (Nat × Bool)) (a : Nat) : un c ((j, false) :: t) a = if c.getD j 0 < 0 ∨ 9999999 < c.getD j 0 then some (5, (a : Int)) else if a = 2 ∧ c.getD 4 0 ≠ 0 ∧ c.getD 4 0 ≠ 1 then some (1, 2) else un c t (a + 1) := rfl
set_option maxRecDepth 100000 in
set_option maxHeartbeats 8000000 in
theorem untold_is (c0 c1 c2 c3 c4 c5 c6 c7 c8 : Int) (hk : c0 = 1 ∨ c0 = 2 ∨ c0 = 3 ∨ c0 = 4) (w : World) : Calls Tryd.prog 31 #[.agg (List.toArray [.int .i64 c0, .int .i64 c1, .int .i64 c2, .int .i64 c3, .int .i64 c4, .int .i64 c5, .int .i64 c6, .int .i64 c7, .int .i64 c8])] w (UnIs (un [c0, c1, c2, c3, c4, c5, c6, c7, c8] (tg c0) 0) w) := by
  have gA : Below w.heap.size w (w.alloc (.cells (List.toArray [.int .i64 c0, .int .i64 c1, .int .i64 c2, .int .i64 c3, .int .i64 c4, .int .i64 c5, .int .i64 c6, .int .i64 c7, .int .i64 c8]) 26)) := by go_grown
  have bA := Bl.new w [.int .i64 c0, .int .i64 c1, .int .i64 c2, .int .i64 c3, .int .i64 c4, .int .i64 c5, .int .i64 c6, .int .i64 c7, .int .i64 c8] 26
  have zA : (w.alloc (.cells (List.toArray [.int .i64 c0, .int .i64 c1, .int .i64 c2, .int .i64 c3, .int .i64 c4, .int .i64 c5, .int .i64 c6, .int .i64 c7, .int .i64 c8]) 26)).heap.size = w.heap.size + 1 := World.size_alloc ..
  obtain ⟨CL, hCL⟩ : ∃ CL, CL = ([c0, c1, c2, c3, c4, c5, c6, c7, c8] : List Int) := ⟨_, rfl⟩
  have bA' : Bl w.heap.size (CL.map (Value.int .i64)) (w.alloc (.cells (List.toArray [.int .i64 c0, .int .i64 c1, .int .i64 c2, .int .i64 c3, .int .i64 c4, .int .i64 c5, .int .i64 c6, .int .i64 c7, .int .i64 c8]) 26)) := by rw [hCL]; exact bA
  have hgd : ∀ j, j < 9 → (CL.map (Value.int .i64))[j]? = some (.int .i64 (CL.getD j 0)) := fun j hj => by
    have hl : j < CL.length := by rw [hCL]; exact hj
    rw [List.getElem?_map, List.getElem?_eq_getElem hl]; simp [List.getD, hl]
  rw [← hCL]
  obtain ⟨AB, hAB⟩ : ∃ AB, AB = w.heap.size := ⟨_, rfl⟩
  obtain ⟨W1, hW1⟩ : ∃ W1, W1 = (w.alloc (.cells (List.toArray [.int .i64 c0, .int .i64 c1, .int .i64 c2, .int .i64 c3, .int .i64 c4, .int .i64 c5, .int .i64 c6, .int .i64 c7, .int .i64 c8]) 26)) := ⟨_, rfl⟩
  have HSL := Lib.hid (slots_is AB c0 W1 hk (by rw [hW1, hAB]; exact bA.cell 0 _ rfl))
  rw [← hAB] at bA'
  rw [← hW1] at gA bA'
  have HA := Lib.hid (And.intro bA' gA)
  have HAB := Lib.hid hAB
  have HW1 := Lib.hid hW1
  have HGD := Lib.hid hgd
  clear bA bA' gA zA hgd hAB hW1 hk hCL
  go_enter Tryd.func31, Tryd.ntmps31
  go_wp2_with fail
  rw [← HW1.out, ← HAB.out]
  refine HSL.out.mono ?_
  rintro e5 w5 ⟨A5, cp5, rfl, hsl, hb5⟩
  have HL8 := Lib.hid (tg_len c0)
  have HTG := Lib.hid (fun i j b => tg_lt c0 i j b)
  obtain ⟨LL, hLL⟩ : ∃ LL, LL = tg c0 := ⟨_, rfl⟩
  rw [← hLL] at hsl HL8 HTG ⊢
  have HST : Hid (Bl AB (CL.map (Value.int .i64)) w5 ∧ SlAt w5 AB A5 LL ∧ Below w.heap.size w w5) := Lib.hid ⟨HA.out.1.below hb5, hsl, Below.step HA.out.2 hb5⟩
  have l8 : (LL.length : Int) ≤ 8 := by have := HL8.out; omega
  have HLL := Lib.hid hLL
  clear hsl hb5 hLL HSL HA
  go_wp2_with fail
  go_loopw [3, 8] (fun x j wr => ∃ (i a : Nat), i ≤ LL.length ∧ a ≤ i ∧ x = .int .i64 (a : Int) ∧ j = .int .i64 (i : Int) ∧ Hid (un CL LL 0 = un CL (LL.drop i) a) ∧ Hid (Bl AB (CL.map (Value.int .i64)) wr ∧ SlAt wr AB A5 LL ∧ Below w.heap.size w wr)) (fun _ j _ => LL.length + 1 - (intOf j).toNat)
  case atStart => exact ⟨0, 0, Nat.zero_le _, Nat.le_refl _, rfl, rfl, Lib.hid rfl, HST⟩
  case round =>
    clear HST
    obtain ⟨i, a, hi, hai, rfl, rfl, HP, HM⟩ := hrel
    have i0 : (0 : Int) ≤ (i : Int) := by omega
    have a0 : (0 : Int) ≤ (a : Int) := by omega
    by_cases hlt : i < LL.length
    · obtain ⟨⟨j, b⟩, hjb⟩ : ∃ x, LL[i]? = some x := ⟨LL[i], List.getElem?_eq_getElem hlt⟩
      obtain ⟨g, rfl, hgl, hcc⟩ := HM.out.2.1 (by omega)
      obtain ⟨p0, p1⟩ := hcc i j b hjb
      have hdr : LL.drop i = (j, b) :: LL.drop (i + 1) := by
        have e1 : LL[i] = (j, b) := by rw [List.getElem?_eq_getElem hlt] at hjb; injection hjb
        rw [← e1]; exact List.drop_eq_getElem_cons hlt
      have hj9 := HTG.out i j b hjb
      have HP2 : Hid (un CL LL 0 = un CL ((j, b) :: LL.drop (i + 1)) a) := Lib.hid (by rw [← hdr]; exact HP.out)
      have xj := HM.out.1.cell j _ (HGD.out j hj9)
      have x4 := HM.out.1.cell 4 _ (HGD.out 4 (by omega))
      have q1 : (i : Int) < (LL.length : Int) := by omega
      have a8 : (a : Int) ≤ 8 := by omega
      have gS : Below wr.heap.size wr (wr.alloc (.cells (List.toArray [.pointer (some ⟨AB, j, none⟩), .bool b]) 62)) := by go_grown
      have HS2 : Hid (Bl AB (CL.map (Value.int .i64)) (wr.alloc (.cells (List.toArray [.pointer (some ⟨AB, j, none⟩), .bool b]) 62)) ∧ SlAt (wr.alloc (.cells (List.toArray [.pointer (some ⟨AB, j, none⟩), .bool b]) 62)) AB (some ⟨g, 0, none⟩) LL ∧ Below w.heap.size w (wr.alloc (.cells (List.toArray [.pointer (some ⟨AB, j, none⟩), .bool b]) 62))) := Lib.hid ⟨HM.out.1.below gS, HM.out.2.1.below gS, Below.step HM.out.2.2 gS⟩
      have Hi := Lib.hid (And.intro hlt hai)
      obtain ⟨X, hX⟩ : ∃ X, X = CL.getD j 0 := ⟨_, rfl⟩
      obtain ⟨Y, hY⟩ : ∃ Y, Y = CL.getD 4 0 := ⟨_, rfl⟩
      rw [← hX] at xj
      rw [← hY] at x4
      have HXY := Lib.hid (And.intro hX hY)
      have lj := HM.out.1.lt
      clear hjb hcc hdr hj9 hi hai hlt gS hX hY
      rcases b with _ | _
      rotate_left
      · have HP3 := Lib.hid (HP2.out.trans (un_skip _ _ _ _))
        clear HP2
        go_wp2_with fail
        go_roundw
        case rel => exact ⟨i + 1, a, Hi.out.1, by have := Hi.out.2; omega, rfl, by go_num, HP3, HS2⟩
        case measure => have := Hi.out; simp [intOf]; omega
      · have hun := HP2.out.trans (un_num _ _ _ _)
        rw [← HXY.out.1, ← HXY.out.2] at hun
        have HUN := Lib.hid hun
        clear hun HP2
        by_cases h1 : X < 0
        · have HR := Lib.hid (HUN.out.trans (if_pos (Or.inl h1)))
          clear HUN
          go_wp2_with fail
          refine (at_is (a : Int) 5 _).mono ?_
          rintro e9 w9 ⟨v9, rfl, hE9, hb9⟩
          have HB9 := Lib.hid (Below.step HS2.out.2.2 hb9)
          clear hb9
          go_wp2_with fail
          go_ret
          show UnIs _ _ _ _
          rw [← HLL.out, HR.out]
          exact ⟨_, rfl, hE9, HB9.out⟩
        have n1 : decide (X < 0) = false := decide_eq_false h1
        by_cases h2 : 9999999 < X
        · have HR := Lib.hid (HUN.out.trans (if_pos (Or.inr h2)))
          clear HUN h1
          go_wp2_with fail
          refine (at_is (a : Int) 5 _).mono ?_
          rintro e9 w9 ⟨v9, rfl, hE9, hb9⟩
          have HB9 := Lib.hid (Below.step HS2.out.2.2 hb9)
          clear hb9
          go_wp2_with fail
          go_ret
          show UnIs _ _ _ _
          rw [← HLL.out, HR.out]
          exact ⟨_, rfl, hE9, HB9.out⟩
        have n2 : decide (9999999 < X) = false := decide_eq_false h2
        have HU2 := Lib.hid (HUN.out.trans (if_neg (by omega)))
        clear HUN h1 h2
        by_cases h3 : a = 2
        · by_cases h4 : Y = 0
          · have HR := Lib.hid (HU2.out.trans (if_neg (by omega)))
            have e3 : ((a : Int) == 2) = true := by rw [beq_iff_eq]; omega
            have e4 : (Y != 0) = false := by rw [h4]; rfl
            clear HU2 h3 h4
            go_wp2_with fail
            go_roundw
            case rel => exact ⟨i + 1, a + 1, Hi.out.1, by have := Hi.out.2; omega, by go_num, by go_num, HR, HS2⟩
            case measure => have := Hi.out; simp [intOf]; omega
          · have e3 : ((a : Int) == 2) = true := by rw [beq_iff_eq]; omega
            have e4 : (Y != 0) = true := bne_iff_ne.2 h4
            by_cases h5 : Y = 1
            · have HR := Lib.hid (HU2.out.trans (if_neg (by omega)))
              have e5 : (Y != 1) = false := by rw [h5]; rfl
              clear HU2 h3 h4 h5
              go_wp2_with fail
              go_roundw
              case rel => exact ⟨i + 1, a + 1, Hi.out.1, by have := Hi.out.2; omega, by go_num, by go_num, HR, HS2⟩
              case measure => have := Hi.out; simp [intOf]; omega
            · have HR := Lib.hid (HU2.out.trans (if_pos ⟨h3, h4, h5⟩))
              have e5 : (Y != 1) = true := bne_iff_ne.2 h5
              have HA2 := Lib.hid h3
              clear HU2 h3 h4 h5
              go_wp2_with fail
              refine (at_is (a : Int) 1 _).mono ?_
              rintro e9 w9 ⟨v9, rfl, hE9, hb9⟩
              have HB9 := Lib.hid (Below.step HS2.out.2.2 hb9)
              clear hb9
              go_wp2_with fail
              go_ret
              show UnIs _ _ _ _
              rw [← HLL.out, HR.out]
              have h22 : (a : Int) = 2 := by have := HA2.out; omega
              rw [h22] at hE9
              exact ⟨_, rfl, hE9, HB9.out⟩
        · have HR := Lib.hid (HU2.out.trans (if_neg (by omega)))
          have e3 : ((a : Int) == 2) = false := by rw [beq_eq_false_iff_ne]; omega
          clear HU2 h3
          go_wp2_with fail
          go_roundw
          case rel => exact ⟨i + 1, a + 1, Hi.out.1, by have := Hi.out.2; omega, by go_num, by go_num, HR, HS2⟩
          case measure => have := Hi.out; simp [intOf]; omega
    · have hke : i = LL.length := by omega
      subst hke
      have HR := Lib.hid (show un CL LL 0 = none by rw [HP.out, List.drop_length]; rfl)
      have q5 : decide ((LL.length : Int) < (LL.length : Int)) = false := decide_eq_false (by omega)
      clear hi hlt hai
      go_wp2_with fail
      go_ret
      show UnIs _ _ _ _
      rw [← HLL.out, HR.out]
      exact ⟨rfl, HM.out.2.2⟩

end Go.Proofs.YtnppopeoloigeaaDoor

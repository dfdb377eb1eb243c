/-
  The document's Print.
-/
import Derived.Test.YtnppopeoloigeaaDoorRows
import Derived.Test.YtnppopeoloigeaaDoorKit
import Derived.Test.YtnppopeoloigeaaDoorApp
import Derived.Test.YtnppopeoloigeaaDoorQuiet
import Derived.WalkKit
import Derived.ProofKit
import Derived.OpenShut
import Derived.ShutString
import Derived.Below
import Derived.Outline
import Derived.WalkLawsBesides
import Derived.WalkSpells
import Derived.Handy
import Derived.Deep.QuietTactic
import Derived.BigQuiet
import Derived.RegionTactic
import Derived.ChangeAlike
import Derived.Lib.Hide
import Derived.Laws.Rows
import Derived.Laws.Tables
import Derived.Laws.CopyOwn
import Derived.Laws.MakeOwn
import Derived.Laws.Entries
import Derived.Laws.OwnMore
import Derived.Deep.WholeRow
import Derived.Deep.LoopGhost
import Derived.Deep.AppendLies
import Derived.Deep.Draws
import Derived.Maps.AppendAt
import Derived.OwnWalk
import Derived.Deep.RegionHeld3
import Derived.Deep.Cut
import Derived.Deep.CutRange
import Derived.Deep.DeepCutAuto
import Derived.Deep.CutBlock
import Derived.Lib.SliceRun
import Derived.IntWalk
import Derived.Laws.Strings
import Derived.Lib.Bytealg
import Derived.Lib.Strings
import Derived.Laws.Externs
import Derived.Test.YtnppopeoloigeaaDoorLnO
import Derived.Deep.Slices
import Derived.Deep.Fields
import Derived.ChangeSame
import Derived.ChangeArms
import Derived.Deep.MidRow
import Derived.Deep.Upon
namespace Go.Proofs.YtnppopeoloigeaaDoor
open Go.ChangeShapes Go.WideShapes Go.ChangeAt Go.RowKit
/-- Where the i-th number of an ask stands among its words. -/
def ps (i : Nat) : Nat := if i ≤ 2 then i else i + 1
/-- What the document's Print hands back. -/
def RtIs (r : PR) (w : World) (e : Ending) (w' : World) : Prop := match r with
  | .er x p => e = .returned (.tuple #[.string ⟨#[]⟩, .int .i64 x, .int .i64 (if x = 6 then 0 else p)]) ∧ Below w.heap.size w w'
  | .ok l => e = .returned (.tuple #[.string (Bs l), .int .i64 0, .int .i64 0]) ∧ Below w.heap.size w w'
theorem infoI' : (Tryd.prog.info? 3).map (fun i => (i.zero, i.size, i.bytes)) = some (some (.int .i64 0), 1, 8) := by kernel_rfl
theorem ws_cons (c : List Int) (j : Nat) (b : Bool) : ws c [(j, b)] = 32 :: wd b (c.getD j 0) := by simp [ws]
theorem Bs_cat (a : List UInt8) (l : List UInt8) : Bs a ++ ⟨#[32]⟩ ++ Bs l = Bs (a ++ 32 :: l) := by
  rw [show (⟨#[32]⟩ : ByteArray) = Bs [32] from rfl, Bs_append, Bs_append]
  simp
theorem nl1 (i : Nat) (hi : i < 7) (h2 : i ≠ 2) : (tg 1).drop (ps i) = (([1, 2, 3, 8, 5, 6, 7] : List Nat).getD i 0, false) :: (tg 1).drop (ps (i + 1)) ∧ (tg 1).take (ps (i + 1)) = (tg 1).take (ps i) ++ [(([1, 2, 3, 8, 5, 6, 7] : List Nat).getD i 0, false)] := by
  rcases (show i = 0 ∨ i = 1 ∨ i = 3 ∨ i = 4 ∨ i = 5 ∨ i = 6 by omega) with rfl | rfl | rfl | rfl | rfl | rfl
  all_goals exact ⟨rfl, rfl⟩
theorem nl1_two : (tg 1).drop (ps 2) = (4, true) :: (3, false) :: (tg 1).drop (ps 3) ∧ (tg 1).take (ps 3) = (tg 1).take (ps 2) ++ [(4, true), (3, false)] := ⟨rfl, rfl⟩
set_option maxRecDepth 100000 in
set_option maxHeartbeats 8000000 in
theorem rprint_1 (c1 c2 c3 c4 c5 c6 c7 c8 : Int) (w : World) : Calls Tryd.prog 17 #[.agg (List.toArray [.int .i64 1, .int .i64 c1, .int .i64 c2, .int .i64 c3, .int .i64 c4, .int .i64 c5, .int .i64 c6, .int .i64 c7, .int .i64 c8])] w (RtIs (pt [(1 : Int), c1, c2, c3, c4, c5, c6, c7, c8]) w) := by
  have hpt : pt [(1 : Int), c1, c2, c3, c4, c5, c6, c7, c8] = match un [(1 : Int), c1, c2, c3, c4, c5, c6, c7, c8] (tg 1) 0 with
      | some (e, p) => PR.er e p
      | none => .ok ((vb 1).data.toList ++ ws [(1 : Int), c1, c2, c3, c4, c5, c6, c7, c8] (tg 1)) := by unfold pt; exact if_neg (by show ¬((1 : Int) < 1 ∨ (4 : Int) < 1); decide)
  obtain ⟨CL, hCL⟩ : ∃ CL, CL = ([(1 : Int), c1, c2, c3, c4, c5, c6, c7, c8] : List Int) := ⟨_, rfl⟩
  obtain ⟨LL, hLL⟩ : ∃ LL, LL = tg 1 := ⟨_, rfl⟩
  obtain ⟨VV, hVV⟩ : ∃ VV, VV = ([115, 117, 98, 109, 105, 116] : List UInt8) := ⟨_, rfl⟩
  have hpt2 : pt CL = match un CL LL 0 with
      | some (e, p) => PR.er e p
      | none => .ok (VV ++ ws CL LL) := by rw [hCL, hLL, hVV]; exact hpt
  have hns : ∀ i, i < 7 → ([.int .i64 c1, .int .i64 c2, .int .i64 c3, .int .i64 c8, .int .i64 c5, .int .i64 c6, .int .i64 c7] : List Value)[i]? = some (.int .i64 (CL.getD (([1, 2, 3, 8, 5, 6, 7] : List Nat).getD i 0) 0)) := by
    intro i hi
    rw [hCL]
    rcases (show i = 0 ∨ i = 1 ∨ i = 2 ∨ i = 3 ∨ i = 4 ∨ i = 5 ∨ i = 6 by omega) with rfl | rfl | rfl | rfl | rfl | rfl | rfl <;> rfl
  have gA : Below w.heap.size w (w.alloc (.cells (List.toArray [.int .i64 1, .int .i64 c1, .int .i64 c2, .int .i64 c3, .int .i64 c4, .int .i64 c5, .int .i64 c6, .int .i64 c7, .int .i64 c8]) 31)) := by go_grown
  have gB : Below (w.alloc (.cells (List.toArray [.int .i64 1, .int .i64 c1, .int .i64 c2, .int .i64 c3, .int .i64 c4, .int .i64 c5, .int .i64 c6, .int .i64 c7, .int .i64 c8]) 31)).heap.size (w.alloc (.cells (List.toArray [.int .i64 1, .int .i64 c1, .int .i64 c2, .int .i64 c3, .int .i64 c4, .int .i64 c5, .int .i64 c6, .int .i64 c7, .int .i64 c8]) 31)) ((w.alloc (.cells (List.toArray [.int .i64 1, .int .i64 c1, .int .i64 c2, .int .i64 c3, .int .i64 c4, .int .i64 c5, .int .i64 c6, .int .i64 c7, .int .i64 c8]) 31)).alloc (.cells (List.toArray [.int .i64 c1, .int .i64 c2, .int .i64 c3, .int .i64 c8, .int .i64 c5, .int .i64 c6, .int .i64 c7]) 3)) := by go_grown
  have bA := (Bl.new w [.int .i64 1, .int .i64 c1, .int .i64 c2, .int .i64 c3, .int .i64 c4, .int .i64 c5, .int .i64 c6, .int .i64 c7, .int .i64 c8] 31).below gB
  have bB := Bl.new (w.alloc (.cells (List.toArray [.int .i64 1, .int .i64 c1, .int .i64 c2, .int .i64 c3, .int .i64 c4, .int .i64 c5, .int .i64 c6, .int .i64 c7, .int .i64 c8]) 31)) [.int .i64 c1, .int .i64 c2, .int .i64 c3, .int .i64 c8, .int .i64 c5, .int .i64 c6, .int .i64 c7] 3
  have zA : (w.alloc (.cells (List.toArray [.int .i64 1, .int .i64 c1, .int .i64 c2, .int .i64 c3, .int .i64 c4, .int .i64 c5, .int .i64 c6, .int .i64 c7, .int .i64 c8]) 31)).heap.size = w.heap.size + 1 := World.size_alloc ..
  rw [zA] at bB
  have g0 := Below.step gA gB
  obtain ⟨W2, hW2⟩ : ∃ W2, W2 = ((w.alloc (.cells (List.toArray [.int .i64 1, .int .i64 c1, .int .i64 c2, .int .i64 c3, .int .i64 c4, .int .i64 c5, .int .i64 c6, .int .i64 c7, .int .i64 c8]) 31)).alloc (.cells (List.toArray [.int .i64 c1, .int .i64 c2, .int .i64 c3, .int .i64 c8, .int .i64 c5, .int .i64 c6, .int .i64 c7]) 3)) := ⟨_, rfl⟩
  rw [← hW2] at bA bB g0
  have HST : Hid (Bl w.heap.size [.int .i64 1, .int .i64 c1, .int .i64 c2, .int .i64 c3, .int .i64 c4, .int .i64 c5, .int .i64 c6, .int .i64 c7, .int .i64 c8] W2 ∧ Bl (w.heap.size + 1) [.int .i64 c1, .int .i64 c2, .int .i64 c3, .int .i64 c8, .int .i64 c5, .int .i64 c6, .int .i64 c7] W2 ∧ Below w.heap.size w W2) := Lib.hid ⟨bA, bB, g0⟩
  have HW2 := Lib.hid hW2
  have HCL := Lib.hid hCL
  have HLL := Lib.hid hLL
  have HVV := Lib.hid (And.intro hVV (show VV.length ≤ 6 by rw [hVV]; decide))
  have HPT := Lib.hid hpt2
  have HNS := Lib.hid hns
  have HBV := Lib.hid (show (⟨#[115, 117, 98, 109, 105, 116]⟩ : ByteArray) = Bs VV by rw [hVV]; rfl)
  have H4 : Hid (CL.getD 4 0 = c4) := Lib.hid (by rw [hCL]; rfl)
  clear hpt hpt2 hns gA gB bA bB zA g0 hW2 hCL hLL hVV
  go_enter Tryd.func17, Tryd.ntmps17
  go_wp2_with fail
  rw [← HW2.out, HBV.out]
  go_loopw [6, 7] (fun v j wr => ∃ (i : Nat) (S : List UInt8), i ≤ 7 ∧ v = .string (Bs S) ∧ j = .int .i64 (i : Int) ∧ Hid (S = VV ++ ws CL (LL.take (ps i)) ∧ un CL LL 0 = un CL (LL.drop (ps i)) i ∧ S.length ≤ 6 + 14 * i) ∧ Hid (Bl w.heap.size [.int .i64 1, .int .i64 c1, .int .i64 c2, .int .i64 c3, .int .i64 c4, .int .i64 c5, .int .i64 c6, .int .i64 c7, .int .i64 c8] wr ∧ Bl (w.heap.size + 1) [.int .i64 c1, .int .i64 c2, .int .i64 c3, .int .i64 c8, .int .i64 c5, .int .i64 c6, .int .i64 c7] wr ∧ Below w.heap.size w wr)) (fun _ j _ => 7 + 1 - (intOf j).toNat)
  case atStart => exact ⟨0, VV, Nat.zero_le _, rfl, rfl, Lib.hid ⟨by simp [ps, ws], by simp [ps], HVV.out.2⟩, HST⟩
  case round =>
    clear HST
    obtain ⟨i, S, hi, rfl, rfl, HP, HM⟩ := hrel
    have i0 : (0 : Int) ≤ (i : Int) := by omega
    have im : (i : Int) ≤ 7 := by omega
    have hsl := HP.out.2.2
    have hbs : (Bs S).size = S.length := Bs_size S
    have s150 : S.length ≤ 104 := by omega
    have x4 := HM.out.1.cell 4 _ rfl
    have x0 := HM.out.1.cell 0 _ rfl
    have lA := HM.out.1.lt
    have lB := HM.out.2.1.lt
    by_cases hlt : i < 7
    · have q1 : (i : Int) < 7 := by omega
      have xi := HM.out.2.1.cell i _ (HNS.out i hlt)
      obtain ⟨X, hX⟩ : ∃ X, X = CL.getD (([1, 2, 3, 8, 5, 6, 7] : List Nat).getD i 0) 0 := ⟨_, rfl⟩
      rw [← hX] at xi
      have HX := Lib.hid hX
      have Hi := Lib.hid hlt
      by_cases h22 : i = 2
      · subst h22
        have HNL := Lib.hid nl1_two
        rw [← HLL.out] at HNL
        have hun := HP.out.2.1
        rw [HNL.out.1] at hun
        have hun2 := (hun.trans (un_skip _ _ _ _)).trans (un_num _ _ _ _)
        rw [show CL.getD 3 0 = X from hX.symm, H4.out] at hun2
        have HUN := Lib.hid hun2
        clear hun hun2 hX hi hlt
        by_cases h1 : X < 0
        · have HR := Lib.hid (HUN.out.trans (if_pos (Or.inl h1)))
          clear HUN
          go_wp2_with fail
          go_ret3
          show RtIs _ _ _ _
          rw [← HCL.out, HPT.out, HR.out]
          exact ⟨rfl, HM.out.2.2⟩
        have n1 : decide (X < 0) = false := decide_eq_false h1
        by_cases h2 : 9999999 < X
        · have HR := Lib.hid (HUN.out.trans (if_pos (Or.inr h2)))
          clear HUN h1
          go_wp2_with fail
          go_ret3
          show RtIs _ _ _ _
          rw [← HCL.out, HPT.out, HR.out]
          exact ⟨rfl, HM.out.2.2⟩
        have n2 : decide (9999999 < X) = false := decide_eq_false h2
        have HU2 := Lib.hid (HUN.out.trans (if_neg (by omega)))
        obtain ⟨NX, hNX⟩ : ∃ NX : Nat, X = (NX : Int) := ⟨X.toNat, by omega⟩
        subst hNX
        have HDC := Lib.hid (fun W => decimal_is NX (by omega) W)
        have hdl := dcl_len 7 NX (by omega)
        have hbd : (Bs (dcl NX)).size = (dcl NX).length := Bs_size _
        have HWD : Hid (wd false (CL.getD (([1, 2, 3, 8, 5, 6, 7] : List Nat).getD 2 0) 0) = dcl NX) := Lib.hid (by rw [← HX.out]; unfold wd; simp)
        clear HUN h1 h2
        by_cases h4 : c4 = 0
        · have HC4 := Lib.hid h4
          have HSD := Lib.hid h4
          subst h4
          have HR := Lib.hid (HU2.out.trans (if_neg (by omega)))
          clear HU2 HSD
          go_wp2_with fail
          refine (HDC.out _).mono ?_
          rintro e7 w7 ⟨rfl, hb7⟩
          have gs : Below wr.heap.size wr (wr.alloc (.cells (List.toArray [.string ⟨#[98, 117, 121]⟩, .string ⟨#[115, 101, 108, 108]⟩]) 9)) := by go_grown
          have gs7 := Below.step gs hb7
          have HM7 := Lib.hid (And.intro (HM.out.1.below gs7) (And.intro (HM.out.2.1.below gs7) (Below.step HM.out.2.2 gs7)))
          clear hb7 gs gs7 x4 x0 xi
          go_wp2_with fail
          go_roundw
          case rel =>
            refine ⟨3, (S ++ 32 :: [98, 117, 121]) ++ 32 :: dcl NX, by omega, ?_, by first | rfl | go_num, Lib.hid ⟨?_, HR.out, ?_⟩, HM7⟩
            · rw [← Bs_cat, ← Bs_cat]; first | rfl | simp only [ByteArray.append_assoc]; try rfl
            · rw [HNL.out.2, ws_app, HP.out.1]
              have : ws CL [(4, true), (3, false)] = 32 :: [98, 117, 121] ++ 32 :: dcl NX := by
                rw [show ([(4, true), (3, false)] : List (Nat × Bool)) = [(4, true)] ++ [(3, false)] from rfl, ws_app, ws_cons, ws_cons, H4.out]
                have := HWD.out
                rw [show CL.getD 3 0 = CL.getD (([1, 2, 3, 8, 5, 6, 7] : List Nat).getD 2 0) 0 from rfl, this]; rfl
              rw [this]; simp
            · have := HP.out.2.2; simp only [List.length_append, List.length_cons, List.length_nil]; omega
          case measure => simp [intOf]
        by_cases h5 : c4 = 1
        · have HC4 := Lib.hid h5
          have HSD := Lib.hid h5
          subst h5
          clear h4
          have HR := Lib.hid (HU2.out.trans (if_neg (by omega)))
          clear HU2 HSD
          go_wp2_with fail
          refine (HDC.out _).mono ?_
          rintro e7 w7 ⟨rfl, hb7⟩
          have gs : Below wr.heap.size wr (wr.alloc (.cells (List.toArray [.string ⟨#[98, 117, 121]⟩, .string ⟨#[115, 101, 108, 108]⟩]) 9)) := by go_grown
          have gs7 := Below.step gs hb7
          have HM7 := Lib.hid (And.intro (HM.out.1.below gs7) (And.intro (HM.out.2.1.below gs7) (Below.step HM.out.2.2 gs7)))
          clear hb7 gs gs7 x4 x0 xi
          go_wp2_with fail
          go_roundw
          case rel =>
            refine ⟨3, (S ++ 32 :: [115, 101, 108, 108]) ++ 32 :: dcl NX, by omega, ?_, by first | rfl | go_num, Lib.hid ⟨?_, HR.out, ?_⟩, HM7⟩
            · rw [← Bs_cat, ← Bs_cat]; first | rfl | simp only [ByteArray.append_assoc]; try rfl
            · rw [HNL.out.2, ws_app, HP.out.1]
              have : ws CL [(4, true), (3, false)] = 32 :: [115, 101, 108, 108] ++ 32 :: dcl NX := by
                rw [show ([(4, true), (3, false)] : List (Nat × Bool)) = [(4, true)] ++ [(3, false)] from rfl, ws_app, ws_cons, ws_cons, H4.out]
                have := HWD.out
                rw [show CL.getD 3 0 = CL.getD (([1, 2, 3, 8, 5, 6, 7] : List Nat).getD 2 0) 0 from rfl, this]; rfl
              rw [this]; simp
            · have := HP.out.2.2; simp only [List.length_append, List.length_cons, List.length_nil]; omega
          case measure => simp [intOf]
        have HR := Lib.hid (HU2.out.trans (if_pos ⟨rfl, h4, h5⟩))
        have e4 : (c4 != 0) = true := bne_iff_ne.2 h4
        have e5 : (c4 != 1) = true := bne_iff_ne.2 h5
        clear HU2 h4 h5
        go_wp2_with fail
        go_ret3
        show RtIs _ _ _ _
        rw [← HCL.out, HPT.out, HR.out]
        exact ⟨rfl, HM.out.2.2⟩
      · have h2b : ((i : Int) == 2) = false := beq_eq_false_iff_ne.2 (by omega)
        have HNL := Lib.hid (nl1 i hlt h22)
        rw [← HLL.out] at HNL
        have hun := HP.out.2.1
        rw [HNL.out.1] at hun
        have hun2 := hun.trans (un_num _ _ _ _)
        rw [← hX] at hun2
        have HUN := Lib.hid hun2
        have hi2 : ¬ i = 2 := h22
        clear hun hun2 hX hi hlt h22
        by_cases h1 : X < 0
        · have HR := Lib.hid (HUN.out.trans (if_pos (Or.inl h1)))
          clear HUN
          go_wp2_with fail
          go_ret3
          show RtIs _ _ _ _
          rw [← HCL.out, HPT.out, HR.out]
          exact ⟨rfl, HM.out.2.2⟩
        have n1 : decide (X < 0) = false := decide_eq_false h1
        by_cases h2 : 9999999 < X
        · have HR := Lib.hid (HUN.out.trans (if_pos (Or.inr h2)))
          clear HUN h1
          go_wp2_with fail
          go_ret3
          show RtIs _ _ _ _
          rw [← HCL.out, HPT.out, HR.out]
          exact ⟨rfl, HM.out.2.2⟩
        have n2 : decide (9999999 < X) = false := decide_eq_false h2
        have HU2 := Lib.hid (HUN.out.trans (if_neg (by omega)))
        obtain ⟨NX, hNX⟩ : ∃ NX : Nat, X = (NX : Int) := ⟨X.toNat, by omega⟩
        subst hNX
        have HDC := Lib.hid (fun W => decimal_is NX (by omega) W)
        have hdl := dcl_len 7 NX (by omega)
        have hbd : (Bs (dcl NX)).size = (dcl NX).length := Bs_size _
        have HWD : Hid (wd false (CL.getD (([1, 2, 3, 8, 5, 6, 7] : List Nat).getD i 0) 0) = dcl NX) := Lib.hid (by rw [← HX.out]; unfold wd; simp)
        clear HUN h1 h2
        have HR := Lib.hid (HU2.out.trans (if_neg (by omega)))
        clear HU2
        go_wp2_with fail
        refine (HDC.out _).mono ?_
        rintro e7 w7 ⟨rfl, hb7⟩
        have HM7 := Lib.hid (And.intro (HM.out.1.below hb7) (And.intro (HM.out.2.1.below hb7) (Below.step HM.out.2.2 hb7)))
        clear hb7 x4 x0 xi
        go_wp2_with fail
        go_roundw
        case rel =>
          refine ⟨i + 1, S ++ 32 :: dcl NX, Hi.out, ?_, by go_num, Lib.hid ⟨?_, HR.out, ?_⟩, HM7⟩
          · first | rw [Bs_cat] | (simp only [← Bs_cat, ByteArray.append_assoc])
          · rw [HNL.out.2, ws_app, ws_cons, HWD.out, HP.out.1, List.append_assoc]
          · have := HP.out.2.2; rw [List.length_append, List.length_cons]; omega
        case measure => have := Hi.out; simp [intOf]; omega
    · obtain rfl : i = 7 := by omega
      have HR := Lib.hid (show un CL LL 0 = none by rw [HP.out.2.1, HLL.out]; rfl)
      have HSS := Lib.hid (show S = VV ++ ws CL LL by rw [HP.out.1, HLL.out]; rfl)
      clear hi hlt x4 x0
      go_wp2_with fail
      go_ret3
      show RtIs _ _ _ _
      rw [← HCL.out, HPT.out, HR.out]
      exact ⟨by rw [HSS.out]; rfl, HM.out.2.2⟩
theorem nl2 (i : Nat) (hi : i < 2) : (tg 2).drop (ps i) = (([1, 2] : List Nat).getD i 0, false) :: (tg 2).drop (ps (i + 1)) ∧ (tg 2).take (ps (i + 1)) = (tg 2).take (ps i) ++ [(([1, 2] : List Nat).getD i 0, false)] := by
  rcases (show i = 0 ∨ i = 1 by omega) with rfl | rfl
  all_goals exact ⟨rfl, rfl⟩
set_option maxRecDepth 100000 in
set_option maxHeartbeats 8000000 in
theorem rprint_2 (c1 c2 c3 c4 c5 c6 c7 c8 : Int) (w : World) : Calls Tryd.prog 17 #[.agg (List.toArray [.int .i64 2, .int .i64 c1, .int .i64 c2, .int .i64 c3, .int .i64 c4, .int .i64 c5, .int .i64 c6, .int .i64 c7, .int .i64 c8])] w (RtIs (pt [(2 : Int), c1, c2, c3, c4, c5, c6, c7, c8]) w) := by
  have hpt : pt [(2 : Int), c1, c2, c3, c4, c5, c6, c7, c8] = match un [(2 : Int), c1, c2, c3, c4, c5, c6, c7, c8] (tg 2) 0 with
      | some (e, p) => PR.er e p
      | none => .ok ((vb 2).data.toList ++ ws [(2 : Int), c1, c2, c3, c4, c5, c6, c7, c8] (tg 2)) := by unfold pt; exact if_neg (by show ¬((2 : Int) < 1 ∨ (4 : Int) < 2); decide)
  obtain ⟨CL, hCL⟩ : ∃ CL, CL = ([(2 : Int), c1, c2, c3, c4, c5, c6, c7, c8] : List Int) := ⟨_, rfl⟩
  obtain ⟨LL, hLL⟩ : ∃ LL, LL = tg 2 := ⟨_, rfl⟩
  obtain ⟨VV, hVV⟩ : ∃ VV, VV = ([99, 97, 110, 99, 101, 108] : List UInt8) := ⟨_, rfl⟩
  have hpt2 : pt CL = match un CL LL 0 with
      | some (e, p) => PR.er e p
      | none => .ok (VV ++ ws CL LL) := by rw [hCL, hLL, hVV]; exact hpt
  have hns : ∀ i, i < 2 → ([.int .i64 c1, .int .i64 c2] : List Value)[i]? = some (.int .i64 (CL.getD (([1, 2] : List Nat).getD i 0) 0)) := by
    intro i hi
    rw [hCL]
    rcases (show i = 0 ∨ i = 1 by omega) with rfl | rfl <;> rfl
  have gA : Below w.heap.size w (w.alloc (.cells (List.toArray [.int .i64 2, .int .i64 c1, .int .i64 c2, .int .i64 c3, .int .i64 c4, .int .i64 c5, .int .i64 c6, .int .i64 c7, .int .i64 c8]) 31)) := by go_grown
  have gB : Below (w.alloc (.cells (List.toArray [.int .i64 2, .int .i64 c1, .int .i64 c2, .int .i64 c3, .int .i64 c4, .int .i64 c5, .int .i64 c6, .int .i64 c7, .int .i64 c8]) 31)).heap.size (w.alloc (.cells (List.toArray [.int .i64 2, .int .i64 c1, .int .i64 c2, .int .i64 c3, .int .i64 c4, .int .i64 c5, .int .i64 c6, .int .i64 c7, .int .i64 c8]) 31)) ((w.alloc (.cells (List.toArray [.int .i64 2, .int .i64 c1, .int .i64 c2, .int .i64 c3, .int .i64 c4, .int .i64 c5, .int .i64 c6, .int .i64 c7, .int .i64 c8]) 31)).alloc (.cells (List.toArray [.int .i64 c1, .int .i64 c2]) 3)) := by go_grown
  have bA := (Bl.new w [.int .i64 2, .int .i64 c1, .int .i64 c2, .int .i64 c3, .int .i64 c4, .int .i64 c5, .int .i64 c6, .int .i64 c7, .int .i64 c8] 31).below gB
  have bB := Bl.new (w.alloc (.cells (List.toArray [.int .i64 2, .int .i64 c1, .int .i64 c2, .int .i64 c3, .int .i64 c4, .int .i64 c5, .int .i64 c6, .int .i64 c7, .int .i64 c8]) 31)) [.int .i64 c1, .int .i64 c2] 3
  have zA : (w.alloc (.cells (List.toArray [.int .i64 2, .int .i64 c1, .int .i64 c2, .int .i64 c3, .int .i64 c4, .int .i64 c5, .int .i64 c6, .int .i64 c7, .int .i64 c8]) 31)).heap.size = w.heap.size + 1 := World.size_alloc ..
  rw [zA] at bB
  have g0 := Below.step gA gB
  obtain ⟨W2, hW2⟩ : ∃ W2, W2 = ((w.alloc (.cells (List.toArray [.int .i64 2, .int .i64 c1, .int .i64 c2, .int .i64 c3, .int .i64 c4, .int .i64 c5, .int .i64 c6, .int .i64 c7, .int .i64 c8]) 31)).alloc (.cells (List.toArray [.int .i64 c1, .int .i64 c2]) 3)) := ⟨_, rfl⟩
  rw [← hW2] at bA bB g0
  have HST : Hid (Bl w.heap.size [.int .i64 2, .int .i64 c1, .int .i64 c2, .int .i64 c3, .int .i64 c4, .int .i64 c5, .int .i64 c6, .int .i64 c7, .int .i64 c8] W2 ∧ Bl (w.heap.size + 1) [.int .i64 c1, .int .i64 c2] W2 ∧ Below w.heap.size w W2) := Lib.hid ⟨bA, bB, g0⟩
  have HW2 := Lib.hid hW2
  have HCL := Lib.hid hCL
  have HLL := Lib.hid hLL
  have HVV := Lib.hid (And.intro hVV (show VV.length ≤ 6 by rw [hVV]; decide))
  have HPT := Lib.hid hpt2
  have HNS := Lib.hid hns
  have HBV := Lib.hid (show (⟨#[99, 97, 110, 99, 101, 108]⟩ : ByteArray) = Bs VV by rw [hVV]; rfl)
  have H4 : Hid (CL.getD 4 0 = c4) := Lib.hid (by rw [hCL]; rfl)
  clear hpt hpt2 hns gA gB bA bB zA g0 hW2 hCL hLL hVV
  go_enter Tryd.func17, Tryd.ntmps17
  go_wp2_with fail
  rw [← HW2.out, HBV.out]
  go_loopw [6, 7] (fun v j wr => ∃ (i : Nat) (S : List UInt8), i ≤ 2 ∧ v = .string (Bs S) ∧ j = .int .i64 (i : Int) ∧ Hid (S = VV ++ ws CL (LL.take (ps i)) ∧ un CL LL 0 = un CL (LL.drop (ps i)) i ∧ S.length ≤ 6 + 14 * i) ∧ Hid (Bl w.heap.size [.int .i64 2, .int .i64 c1, .int .i64 c2, .int .i64 c3, .int .i64 c4, .int .i64 c5, .int .i64 c6, .int .i64 c7, .int .i64 c8] wr ∧ Bl (w.heap.size + 1) [.int .i64 c1, .int .i64 c2] wr ∧ Below w.heap.size w wr)) (fun _ j _ => 2 + 1 - (intOf j).toNat)
  case atStart => exact ⟨0, VV, Nat.zero_le _, rfl, rfl, Lib.hid ⟨by simp [ps, ws], by simp [ps], HVV.out.2⟩, HST⟩
  case round =>
    clear HST
    obtain ⟨i, S, hi, rfl, rfl, HP, HM⟩ := hrel
    have i0 : (0 : Int) ≤ (i : Int) := by omega
    have im : (i : Int) ≤ 2 := by omega
    have hsl := HP.out.2.2
    have hbs : (Bs S).size = S.length := Bs_size S
    have s150 : S.length ≤ 104 := by omega
    have x4 := HM.out.1.cell 4 _ rfl
    have x0 := HM.out.1.cell 0 _ rfl
    have lA := HM.out.1.lt
    have lB := HM.out.2.1.lt
    by_cases hlt : i < 2
    · have q1 : (i : Int) < 2 := by omega
      have xi := HM.out.2.1.cell i _ (HNS.out i hlt)
      obtain ⟨X, hX⟩ : ∃ X, X = CL.getD (([1, 2] : List Nat).getD i 0) 0 := ⟨_, rfl⟩
      rw [← hX] at xi
      have HX := Lib.hid hX
      have Hi := Lib.hid hlt
      have HNL := Lib.hid (nl2 i hlt)
      rw [← HLL.out] at HNL
      have hun := HP.out.2.1
      rw [HNL.out.1] at hun
      have hun2 := hun.trans (un_num _ _ _ _)
      rw [← hX] at hun2
      have HUN := Lib.hid hun2
      clear hun hun2 hX hi
      by_cases h1 : X < 0
      · have HR := Lib.hid (HUN.out.trans (if_pos (Or.inl h1)))
        clear HUN
        go_wp2_with fail
        go_ret3
        show RtIs _ _ _ _
        rw [← HCL.out, HPT.out, HR.out]
        exact ⟨rfl, HM.out.2.2⟩
      have n1 : decide (X < 0) = false := decide_eq_false h1
      by_cases h2 : 9999999 < X
      · have HR := Lib.hid (HUN.out.trans (if_pos (Or.inr h2)))
        clear HUN h1
        go_wp2_with fail
        go_ret3
        show RtIs _ _ _ _
        rw [← HCL.out, HPT.out, HR.out]
        exact ⟨rfl, HM.out.2.2⟩
      have n2 : decide (9999999 < X) = false := decide_eq_false h2
      have HU2 := Lib.hid (HUN.out.trans (if_neg (by omega)))
      obtain ⟨NX, hNX⟩ : ∃ NX : Nat, X = (NX : Int) := ⟨X.toNat, by omega⟩
      subst hNX
      have HDC := Lib.hid (fun W => decimal_is NX (by omega) W)
      have hdl := dcl_len 7 NX (by omega)
      have hbd : (Bs (dcl NX)).size = (dcl NX).length := Bs_size _
      have HWD : Hid (wd false (CL.getD (([1, 2] : List Nat).getD i 0) 0) = dcl NX) := Lib.hid (by rw [← HX.out]; unfold wd; simp)
      clear HUN h1 h2
      have HR := Lib.hid (HU2.out.trans (if_neg (by omega)))
      clear HU2
      go_wp2_with fail
      refine (HDC.out _).mono ?_
      rintro e7 w7 ⟨rfl, hb7⟩
      have HM7 := Lib.hid (And.intro (HM.out.1.below hb7) (And.intro (HM.out.2.1.below hb7) (Below.step HM.out.2.2 hb7)))
      clear hb7 x4 x0 xi
      go_wp2_with fail
      go_roundw
      case rel =>
        refine ⟨i + 1, S ++ 32 :: dcl NX, Hi.out, ?_, by go_num, Lib.hid ⟨?_, HR.out, ?_⟩, HM7⟩
        · first | rw [Bs_cat] | (simp only [← Bs_cat, ByteArray.append_assoc])
        · rw [HNL.out.2, ws_app, ws_cons, HWD.out, HP.out.1, List.append_assoc]
        · have := HP.out.2.2; rw [List.length_append, List.length_cons]; omega
      case measure => have := Hi.out; simp [intOf]; omega
    · obtain rfl : i = 2 := by omega
      have HR := Lib.hid (show un CL LL 0 = none by rw [HP.out.2.1, HLL.out]; rfl)
      have HSS := Lib.hid (show S = VV ++ ws CL LL by rw [HP.out.1, HLL.out]; rfl)
      clear hi hlt x4 x0
      go_wp2_with fail
      go_ret3
      show RtIs _ _ _ _
      rw [← HCL.out, HPT.out, HR.out]
      exact ⟨by rw [HSS.out]; rfl, HM.out.2.2⟩
theorem nl3 (i : Nat) (hi : i < 1) : (tg 3).drop (ps i) = (([2] : List Nat).getD i 0, false) :: (tg 3).drop (ps (i + 1)) ∧ (tg 3).take (ps (i + 1)) = (tg 3).take (ps i) ++ [(([2] : List Nat).getD i 0, false)] := by
  rcases (show i = 0 by omega) with rfl
  all_goals exact ⟨rfl, rfl⟩
set_option maxRecDepth 100000 in
set_option maxHeartbeats 8000000 in
theorem rprint_3 (c1 c2 c3 c4 c5 c6 c7 c8 : Int) (w : World) : Calls Tryd.prog 17 #[.agg (List.toArray [.int .i64 3, .int .i64 c1, .int .i64 c2, .int .i64 c3, .int .i64 c4, .int .i64 c5, .int .i64 c6, .int .i64 c7, .int .i64 c8])] w (RtIs (pt [(3 : Int), c1, c2, c3, c4, c5, c6, c7, c8]) w) := by
  have hpt : pt [(3 : Int), c1, c2, c3, c4, c5, c6, c7, c8] = match un [(3 : Int), c1, c2, c3, c4, c5, c6, c7, c8] (tg 3) 0 with
      | some (e, p) => PR.er e p
      | none => .ok ((vb 3).data.toList ++ ws [(3 : Int), c1, c2, c3, c4, c5, c6, c7, c8] (tg 3)) := by unfold pt; exact if_neg (by show ¬((3 : Int) < 1 ∨ (4 : Int) < 3); decide)
  obtain ⟨CL, hCL⟩ : ∃ CL, CL = ([(3 : Int), c1, c2, c3, c4, c5, c6, c7, c8] : List Int) := ⟨_, rfl⟩
  obtain ⟨LL, hLL⟩ : ∃ LL, LL = tg 3 := ⟨_, rfl⟩
  obtain ⟨VV, hVV⟩ : ∃ VV, VV = ([112, 111, 108, 108] : List UInt8) := ⟨_, rfl⟩
  have hpt2 : pt CL = match un CL LL 0 with
      | some (e, p) => PR.er e p
      | none => .ok (VV ++ ws CL LL) := by rw [hCL, hLL, hVV]; exact hpt
  have hns : ∀ i, i < 1 → ([.int .i64 c2] : List Value)[i]? = some (.int .i64 (CL.getD (([2] : List Nat).getD i 0) 0)) := by
    intro i hi
    rw [hCL]
    rcases (show i = 0 by omega) with rfl <;> rfl
  have gA : Below w.heap.size w (w.alloc (.cells (List.toArray [.int .i64 3, .int .i64 c1, .int .i64 c2, .int .i64 c3, .int .i64 c4, .int .i64 c5, .int .i64 c6, .int .i64 c7, .int .i64 c8]) 31)) := by go_grown
  have gB : Below (w.alloc (.cells (List.toArray [.int .i64 3, .int .i64 c1, .int .i64 c2, .int .i64 c3, .int .i64 c4, .int .i64 c5, .int .i64 c6, .int .i64 c7, .int .i64 c8]) 31)).heap.size (w.alloc (.cells (List.toArray [.int .i64 3, .int .i64 c1, .int .i64 c2, .int .i64 c3, .int .i64 c4, .int .i64 c5, .int .i64 c6, .int .i64 c7, .int .i64 c8]) 31)) ((w.alloc (.cells (List.toArray [.int .i64 3, .int .i64 c1, .int .i64 c2, .int .i64 c3, .int .i64 c4, .int .i64 c5, .int .i64 c6, .int .i64 c7, .int .i64 c8]) 31)).alloc (.cells (List.toArray [.int .i64 c2]) 3)) := by go_grown
  have bA := (Bl.new w [.int .i64 3, .int .i64 c1, .int .i64 c2, .int .i64 c3, .int .i64 c4, .int .i64 c5, .int .i64 c6, .int .i64 c7, .int .i64 c8] 31).below gB
  have bB := Bl.new (w.alloc (.cells (List.toArray [.int .i64 3, .int .i64 c1, .int .i64 c2, .int .i64 c3, .int .i64 c4, .int .i64 c5, .int .i64 c6, .int .i64 c7, .int .i64 c8]) 31)) [.int .i64 c2] 3
  have zA : (w.alloc (.cells (List.toArray [.int .i64 3, .int .i64 c1, .int .i64 c2, .int .i64 c3, .int .i64 c4, .int .i64 c5, .int .i64 c6, .int .i64 c7, .int .i64 c8]) 31)).heap.size = w.heap.size + 1 := World.size_alloc ..
  rw [zA] at bB
  have g0 := Below.step gA gB
  obtain ⟨W2, hW2⟩ : ∃ W2, W2 = ((w.alloc (.cells (List.toArray [.int .i64 3, .int .i64 c1, .int .i64 c2, .int .i64 c3, .int .i64 c4, .int .i64 c5, .int .i64 c6, .int .i64 c7, .int .i64 c8]) 31)).alloc (.cells (List.toArray [.int .i64 c2]) 3)) := ⟨_, rfl⟩
  rw [← hW2] at bA bB g0
  have HST : Hid (Bl w.heap.size [.int .i64 3, .int .i64 c1, .int .i64 c2, .int .i64 c3, .int .i64 c4, .int .i64 c5, .int .i64 c6, .int .i64 c7, .int .i64 c8] W2 ∧ Bl (w.heap.size + 1) [.int .i64 c2] W2 ∧ Below w.heap.size w W2) := Lib.hid ⟨bA, bB, g0⟩
  have HW2 := Lib.hid hW2
  have HCL := Lib.hid hCL
  have HLL := Lib.hid hLL
  have HVV := Lib.hid (And.intro hVV (show VV.length ≤ 6 by rw [hVV]; decide))
  have HPT := Lib.hid hpt2
  have HNS := Lib.hid hns
  have HBV := Lib.hid (show (⟨#[112, 111, 108, 108]⟩ : ByteArray) = Bs VV by rw [hVV]; rfl)
  have H4 : Hid (CL.getD 4 0 = c4) := Lib.hid (by rw [hCL]; rfl)
  clear hpt hpt2 hns gA gB bA bB zA g0 hW2 hCL hLL hVV
  go_enter Tryd.func17, Tryd.ntmps17
  go_wp2_with fail
  rw [← HW2.out, HBV.out]
  go_loopw [6, 7] (fun v j wr => ∃ (i : Nat) (S : List UInt8), i ≤ 1 ∧ v = .string (Bs S) ∧ j = .int .i64 (i : Int) ∧ Hid (S = VV ++ ws CL (LL.take (ps i)) ∧ un CL LL 0 = un CL (LL.drop (ps i)) i ∧ S.length ≤ 6 + 14 * i) ∧ Hid (Bl w.heap.size [.int .i64 3, .int .i64 c1, .int .i64 c2, .int .i64 c3, .int .i64 c4, .int .i64 c5, .int .i64 c6, .int .i64 c7, .int .i64 c8] wr ∧ Bl (w.heap.size + 1) [.int .i64 c2] wr ∧ Below w.heap.size w wr)) (fun _ j _ => 1 + 1 - (intOf j).toNat)
  case atStart => exact ⟨0, VV, Nat.zero_le _, rfl, rfl, Lib.hid ⟨by simp [ps, ws], by simp [ps], HVV.out.2⟩, HST⟩
  case round =>
    clear HST
    obtain ⟨i, S, hi, rfl, rfl, HP, HM⟩ := hrel
    have i0 : (0 : Int) ≤ (i : Int) := by omega
    have im : (i : Int) ≤ 1 := by omega
    have hsl := HP.out.2.2
    have hbs : (Bs S).size = S.length := Bs_size S
    have s150 : S.length ≤ 104 := by omega
    have x4 := HM.out.1.cell 4 _ rfl
    have x0 := HM.out.1.cell 0 _ rfl
    have lA := HM.out.1.lt
    have lB := HM.out.2.1.lt
    by_cases hlt : i < 1
    · have q1 : (i : Int) < 1 := by omega
      have xi := HM.out.2.1.cell i _ (HNS.out i hlt)
      obtain ⟨X, hX⟩ : ∃ X, X = CL.getD (([2] : List Nat).getD i 0) 0 := ⟨_, rfl⟩
      rw [← hX] at xi
      have HX := Lib.hid hX
      have Hi := Lib.hid hlt
      have HNL := Lib.hid (nl3 i hlt)
      rw [← HLL.out] at HNL
      have hun := HP.out.2.1
      rw [HNL.out.1] at hun
      have hun2 := hun.trans (un_num _ _ _ _)
      rw [← hX] at hun2
      have HUN := Lib.hid hun2
      clear hun hun2 hX hi
      by_cases h1 : X < 0
      · have HR := Lib.hid (HUN.out.trans (if_pos (Or.inl h1)))
        clear HUN
        go_wp2_with fail
        go_ret3
        show RtIs _ _ _ _
        rw [← HCL.out, HPT.out, HR.out]
        exact ⟨rfl, HM.out.2.2⟩
      have n1 : decide (X < 0) = false := decide_eq_false h1
      by_cases h2 : 9999999 < X
      · have HR := Lib.hid (HUN.out.trans (if_pos (Or.inr h2)))
        clear HUN h1
        go_wp2_with fail
        go_ret3
        show RtIs _ _ _ _
        rw [← HCL.out, HPT.out, HR.out]
        exact ⟨rfl, HM.out.2.2⟩
      have n2 : decide (9999999 < X) = false := decide_eq_false h2
      have HU2 := Lib.hid (HUN.out.trans (if_neg (by omega)))
      obtain ⟨NX, hNX⟩ : ∃ NX : Nat, X = (NX : Int) := ⟨X.toNat, by omega⟩
      subst hNX
      have HDC := Lib.hid (fun W => decimal_is NX (by omega) W)
      have hdl := dcl_len 7 NX (by omega)
      have hbd : (Bs (dcl NX)).size = (dcl NX).length := Bs_size _
      have HWD : Hid (wd false (CL.getD (([2] : List Nat).getD i 0) 0) = dcl NX) := Lib.hid (by rw [← HX.out]; unfold wd; simp)
      clear HUN h1 h2
      have HR := Lib.hid (HU2.out.trans (if_neg (by omega)))
      clear HU2
      go_wp2_with fail
      refine (HDC.out _).mono ?_
      rintro e7 w7 ⟨rfl, hb7⟩
      have HM7 := Lib.hid (And.intro (HM.out.1.below hb7) (And.intro (HM.out.2.1.below hb7) (Below.step HM.out.2.2 hb7)))
      clear hb7 x4 x0 xi
      go_wp2_with fail
      go_roundw
      case rel =>
        refine ⟨i + 1, S ++ 32 :: dcl NX, Hi.out, ?_, by go_num, Lib.hid ⟨?_, HR.out, ?_⟩, HM7⟩
        · first | rw [Bs_cat] | (simp only [← Bs_cat, ByteArray.append_assoc])
        · rw [HNL.out.2, ws_app, ws_cons, HWD.out, HP.out.1, List.append_assoc]
        · have := HP.out.2.2; rw [List.length_append, List.length_cons]; omega
      case measure => have := Hi.out; simp [intOf]; omega
    · obtain rfl : i = 1 := by omega
      have HR := Lib.hid (show un CL LL 0 = none by rw [HP.out.2.1, HLL.out]; rfl)
      have HSS := Lib.hid (show S = VV ++ ws CL LL by rw [HP.out.1, HLL.out]; rfl)
      clear hi hlt x4 x0
      go_wp2_with fail
      go_ret3
      show RtIs _ _ _ _
      rw [← HCL.out, HPT.out, HR.out]
      exact ⟨by rw [HSS.out]; rfl, HM.out.2.2⟩
set_option maxRecDepth 100000 in
set_option maxHeartbeats 8000000 in
theorem rprint_4 (c1 c2 c3 c4 c5 c6 c7 c8 : Int) (w : World) : Calls Tryd.prog 17 #[.agg (List.toArray [.int .i64 4, .int .i64 c1, .int .i64 c2, .int .i64 c3, .int .i64 c4, .int .i64 c5, .int .i64 c6, .int .i64 c7, .int .i64 c8])] w (RtIs (pt [(4 : Int), c1, c2, c3, c4, c5, c6, c7, c8]) w) := by
  have hpt : pt [(4 : Int), c1, c2, c3, c4, c5, c6, c7, c8] = match un [(4 : Int), c1, c2, c3, c4, c5, c6, c7, c8] (tg 4) 0 with
      | some (e, p) => PR.er e p
      | none => .ok ((vb 4).data.toList ++ ws [(4 : Int), c1, c2, c3, c4, c5, c6, c7, c8] (tg 4)) := by unfold pt; exact if_neg (by show ¬((4 : Int) < 1 ∨ (4 : Int) < 4); decide)
  have HR := Lib.hid (show pt [(4 : Int), c1, c2, c3, c4, c5, c6, c7, c8] = .ok [118, 105, 101, 119] from hpt)
  have gA : Below w.heap.size w (w.alloc (.cells (List.toArray [.int .i64 4, .int .i64 c1, .int .i64 c2, .int .i64 c3, .int .i64 c4, .int .i64 c5, .int .i64 c6, .int .i64 c7, .int .i64 c8]) 31)) := by go_grown
  have HG := Lib.hid gA
  clear hpt gA
  go_enter Tryd.func17, Tryd.ntmps17
  go_wp2_with fail
  go_loopw [6, 7] (fun v j wr => v = .string ⟨#[118, 105, 101, 119]⟩ ∧ j = .int .i64 0 ∧ Hid (Below w.heap.size w wr)) (fun _ _ _ => 1)
  case atStart => exact ⟨rfl, rfl, HG⟩
  case round =>
    obtain ⟨rfl, rfl, HB⟩ := hrel
    go_wp2_with fail
    go_ret3
    show RtIs _ _ _ _
    rw [HR.out]
    exact ⟨by first | rfl | (unfold Bs; rfl) | (simp [Bs]; done), HB.out⟩
theorem rprint_no (c0 c1 c2 c3 c4 c5 c6 c7 c8 : Int) (hk : c0 < 1 ∨ 4 < c0) (w : World) : Calls Tryd.prog 17 #[.agg (List.toArray [.int .i64 c0, .int .i64 c1, .int .i64 c2, .int .i64 c3, .int .i64 c4, .int .i64 c5, .int .i64 c6, .int .i64 c7, .int .i64 c8])] w (RtIs (pt [c0, c1, c2, c3, c4, c5, c6, c7, c8]) w) := by
  have HR := Lib.hid (show pt [c0, c1, c2, c3, c4, c5, c6, c7, c8] = .er 6 (-1) from by unfold pt; exact if_pos hk)
  have gA : Below w.heap.size w (w.alloc (.cells (List.toArray [.int .i64 c0, .int .i64 c1, .int .i64 c2, .int .i64 c3, .int .i64 c4, .int .i64 c5, .int .i64 c6, .int .i64 c7, .int .i64 c8]) 31)) := by go_grown
  have HG := Lib.hid gA
  have e1 : (c0 == 1) = false := beq_eq_false_iff_ne.2 (by omega)
  have e2 : (c0 == 2) = false := beq_eq_false_iff_ne.2 (by omega)
  have e3 : (c0 == 3) = false := beq_eq_false_iff_ne.2 (by omega)
  have e4 : (c0 == 4) = false := beq_eq_false_iff_ne.2 (by omega)
  clear gA hk
  go_enter Tryd.func17, Tryd.ntmps17
  go_wp2_with fail
  go_ret3
  show RtIs _ _ _ _
  rw [HR.out]
  exact ⟨rfl, HG.out⟩
theorem rprint_is (c0 c1 c2 c3 c4 c5 c6 c7 c8 : Int) (w : World) : Calls Tryd.prog 17 #[.agg (List.toArray [.int .i64 c0, .int .i64 c1, .int .i64 c2, .int .i64 c3, .int .i64 c4, .int .i64 c5, .int .i64 c6, .int .i64 c7, .int .i64 c8])] w (RtIs (pt [c0, c1, c2, c3, c4, c5, c6, c7, c8]) w) := by
  by_cases hk : c0 < 1 ∨ 4 < c0
  · exact rprint_no c0 c1 c2 c3 c4 c5 c6 c7 c8 hk w
  rcases (show c0 = 1 ∨ c0 = 2 ∨ c0 = 3 ∨ c0 = 4 by omega) with rfl | rfl | rfl | rfl
  · exact rprint_1 c1 c2 c3 c4 c5 c6 c7 c8 w
  · exact rprint_2 c1 c2 c3 c4 c5 c6 c7 c8 w
  · exact rprint_3 c1 c2 c3 c4 c5 c6 c7 c8 w
  · exact rprint_4 c1 c2 c3 c4 c5 c6 c7 c8 w

end Go.Proofs.YtnppopeoloigeaaDoor

/-
  The document's Parse.
-/
import Derived.Test.YtnppopeoloigeaaDoorRows
import Derived.Test.YtnppopeoloigeaaDoorKit
import Derived.Test.YtnppopeoloigeaaDoorApp
import Derived.Test.YtnppopeoloigeaaDoorQuiet
import Derived.WalkKit
import Derived.ProofKit
import Derived.OpenShut
import Derived.ShutString
import Derived.Below
import Derived.Outline
import Derived.WalkLawsBesides
import Derived.WalkSpells
import Derived.Handy
import Derived.Deep.QuietTactic
import Derived.BigQuiet
import Derived.RegionTactic
import Derived.ChangeAlike
import Derived.Lib.Hide
import Derived.Laws.Rows
import Derived.Laws.Tables
import Derived.Laws.CopyOwn
import Derived.Laws.MakeOwn
import Derived.Laws.Entries
import Derived.Laws.OwnMore
import Derived.Deep.WholeRow
import Derived.Deep.LoopGhost
import Derived.Deep.AppendLies
import Derived.Deep.Draws
import Derived.Maps.AppendAt
import Derived.OwnWalk
import Derived.Deep.RegionHeld3
import Derived.Deep.Cut
import Derived.Deep.CutRange
import Derived.Deep.DeepCutAuto
import Derived.Deep.CutBlock
import Derived.Lib.SliceRun
import Derived.IntWalk
import Derived.Laws.Strings
import Derived.Lib.Bytealg
import Derived.Lib.Strings
import Derived.Laws.Externs
import Derived.Test.YtnppopeoloigeaaDoorLnM
import Derived.Test.YtnppopeoloigeaaDoorLnI
import Derived.Deep.Slices
import Derived.Deep.Fields
import Derived.ChangeSame
import Derived.ChangeArms
import Derived.Deep.MidRow
import Derived.Deep.Upon
namespace Go.Proofs.YtnppopeoloigeaaDoor
open Go.ChangeShapes Go.WideShapes Go.ChangeAt Go.RowKit
theorem infoI : (Tryd.prog.info? 3).map (fun i => (i.zero, i.size, i.bytes)) = some (some (.int .i64 0), 1, 8) := by kernel_rfl
theorem Bl.same {B : Nat} {l : List Value} {w w' : World} (h : Bl B l w) (hh : w'.heap[B]? = w.heap[B]?) : Bl B l w' := by
  obtain ⟨t, e⟩ := h
  exact ⟨t, hh.trans e⟩
theorem wds_len : ∀ (n : Nat) (l : List UInt8) (f : Nat), (wds n l f).length ≤ l.length + 1
  | 0, _, _ => by simp [wds]
  | n + 1, l, f => by
    have e : wds (n + 1) l f = ((cutb l).1, f) :: (if (cutb l).2.2 = true then wds n (cutb l).2.1 (f + (cutb l).1.length + 1) else []) := rfl
    rw [e]
    split
    · rename_i hc
      have := cutb_less l hc
      have := wds_len n (cutb l).2.1 (f + (cutb l).1.length + 1)
      simp; omega
    · simp
set_option maxRecDepth 100000 in
set_option maxHeartbeats 60000000 in
theorem rparse_is (s : ByteArray) (hs : s.size ≤ 1000) (w : World) : Calls Tryd.prog 9 #[.string s] w (RPp (lp s) w) := by
  have hlen := size_len s
  have gA : Below w.heap.size w (w.alloc (.cells (List.toArray [.int .i64 0, .int .i64 0, .int .i64 0, .int .i64 0, .int .i64 0, .int .i64 0, .int .i64 0, .int .i64 0, .int .i64 0]) 31)) := by go_grown
  have gB : Below (w.alloc (.cells (List.toArray [.int .i64 0, .int .i64 0, .int .i64 0, .int .i64 0, .int .i64 0, .int .i64 0, .int .i64 0, .int .i64 0, .int .i64 0]) 31)).heap.size (w.alloc (.cells (List.toArray [.int .i64 0, .int .i64 0, .int .i64 0, .int .i64 0, .int .i64 0, .int .i64 0, .int .i64 0, .int .i64 0, .int .i64 0]) 31)) ((w.alloc (.cells (List.toArray [.int .i64 0, .int .i64 0, .int .i64 0, .int .i64 0, .int .i64 0, .int .i64 0, .int .i64 0, .int .i64 0, .int .i64 0]) 31)).alloc (.cells (List.toArray [.int .i64 0, .int .i64 0, .int .i64 0, .int .i64 0, .int .i64 0, .int .i64 0, .int .i64 0, .int .i64 0, .int .i64 0]) 31)) := by go_grown
  have bA := (Bl.new w [.int .i64 0, .int .i64 0, .int .i64 0, .int .i64 0, .int .i64 0, .int .i64 0, .int .i64 0, .int .i64 0, .int .i64 0] 31).below gB
  have bB := Bl.new (w.alloc (.cells (List.toArray [.int .i64 0, .int .i64 0, .int .i64 0, .int .i64 0, .int .i64 0, .int .i64 0, .int .i64 0, .int .i64 0, .int .i64 0]) 31)) [.int .i64 0, .int .i64 0, .int .i64 0, .int .i64 0, .int .i64 0, .int .i64 0, .int .i64 0, .int .i64 0, .int .i64 0] 31
  have zB : (w.alloc (.cells (List.toArray [.int .i64 0, .int .i64 0, .int .i64 0, .int .i64 0, .int .i64 0, .int .i64 0, .int .i64 0, .int .i64 0, .int .i64 0]) 31)).heap.size = w.heap.size + 1 := World.size_alloc ..
  have z2 : ((w.alloc (.cells (List.toArray [.int .i64 0, .int .i64 0, .int .i64 0, .int .i64 0, .int .i64 0, .int .i64 0, .int .i64 0, .int .i64 0, .int .i64 0]) 31)).alloc (.cells (List.toArray [.int .i64 0, .int .i64 0, .int .i64 0, .int .i64 0, .int .i64 0, .int .i64 0, .int .i64 0, .int .i64 0, .int .i64 0]) 31)).heap.size = w.heap.size + 2 := by rw [World.size_alloc, zB]
  rw [zB] at bB
  have g0 := Below.step gA gB
  have HLN := Lib.hid hlen
  have HS := Lib.hid hs
  obtain ⟨W1, hW1⟩ : ∃ W1, W1 = (w.alloc (.cells (List.toArray [.int .i64 0, .int .i64 0, .int .i64 0, .int .i64 0, .int .i64 0, .int .i64 0, .int .i64 0, .int .i64 0, .int .i64 0]) 31)).alloc (.cells (List.toArray [.int .i64 0, .int .i64 0, .int .i64 0, .int .i64 0, .int .i64 0, .int .i64 0, .int .i64 0, .int .i64 0, .int .i64 0]) 31) := ⟨_, rfl⟩
  rw [← hW1] at bA bB g0 z2
  have HG := Lib.hid (And.intro bA (And.intro bB (And.intro g0 z2)))
  have HW1 := Lib.hid hW1
  have n0 := bB.cell 0 _ rfl
  have n1 := bB.cell 1 _ rfl
  have n2 := bB.cell 2 _ rfl
  have n3 := bB.cell 3 _ rfl
  have n4 := bB.cell 4 _ rfl
  have n5 := bB.cell 5 _ rfl
  have n6 := bB.cell 6 _ rfl
  have n7 := bB.cell 7 _ rfl
  have n8 := bB.cell 8 _ rfl
  clear gA gB bA bB zB z2 g0 hlen
  by_cases h2 : 200 < s.size
  · have h2i : (200 : Int) < (s.size : Int) := by omega
    have HL := Lib.hid (show lp s = .er 14 200 by unfold lp; rw [if_pos h2])
    rw [hW1] at n0 n1 n2 n3 n4 n5 n6 n7 n8
    rw [hW1] at HG
    clear h2 hs hW1 HW1
    go_enter Tryd.func9, Tryd.ntmps9
    go_wp2_with (refine wpList_store_bl rfl 31 (.tmp 2) (.tmp 20) rfl w.heap.size [.int .i64 0, .int .i64 0, .int .i64 0, .int .i64 0, .int .i64 0, .int .i64 0, .int .i64 0, .int .i64 0, .int .i64 0] [.int .i64 0, .int .i64 0, .int .i64 0, .int .i64 0, .int .i64 0, .int .i64 0, .int .i64 0, .int .i64 0, .int .i64 0] rfl rfl HG.out.1 rfl (by kernel_rfl) rfl ?_; intro w8 hb8 hk8 hs8 hbel8; have HF8 := Lib.hid (And.intro hb8 (And.intro hk8 (And.intro hs8 hbel8))); clear hb8 hk8 hs8 hbel8)
    refine bodyPost_ret (results_three (ty := 31) rfl _ _ w.heap.size [.int .i64 0, .int .i64 0, .int .i64 0, .int .i64 0, .int .i64 0, .int .i64 0, .int .i64 0, .int .i64 0, .int .i64 0] _ _ _ rfl rfl rfl HF8.out.1 Tryd.underlying31 rfl (by kernel_rfl)) rfl ?_
    rw [HL.out]
    exact ⟨rfl, HF8.out.2.2.2 _ _ (Nat.le_refl _) HG.out.2.2.1⟩
  have n2' : decide ((200 : Int) < (s.size : Int)) = false := decide_eq_false (by omega)
  have hl1 : lp s = match fb s.data.toList with
      | some i => LR.er 15 (i : Int)
      | none => if kd (Bs (cutb s.data.toList).1) = 0 then .er 10 0 else fin_ (s.size : Int) (stp (s.size : Int) (tg (kd (Bs (cutb s.data.toList).1))) [kd (Bs (cutb s.data.toList).1), 0, 0, 0, 0, 0, 0, 0, 0] (cutb s.data.toList).2.1 (cutb s.data.toList).2.2) := by unfold lp; rw [if_neg h2]; rfl
  have HL1 := Lib.hid hl1
  have s200 : (s.size : Int) ≤ 200 := by omega
  clear h2 hs hl1 hW1
  go_enter Tryd.func9, Tryd.ntmps9
  go_wp2_with fail
  rw [← HW1.out]
  go_loopw [6] (fun j wr => ∃ k : Nat, k ≤ s.size ∧ j = .int .i64 (k : Int) ∧ Hid (∀ i, i < k → vis (s.data.toList.getD i 0) = true) ∧ W1 = wr) (fun j _ => s.size + 1 - (intOf j).toNat)
  case atStart => exact ⟨0, Nat.zero_le _, rfl, Lib.hid (fun i h => by omega), rfl⟩
  case round =>
    obtain ⟨k, hk, rfl, HALL, rfl⟩ := hrel
    have k0 : (0 : Int) ≤ (k : Int) := by omega
    by_cases hlt : k < s.size
    · obtain ⟨B, hB⟩ : ∃ B, B = s[k]'hlt := ⟨_, rfl⟩
      have hsk : s[k]'hlt = B := hB.symm
      have hgd : s.data.toList.getD k 0 = B := by rw [hB]; exact (get_bt s k hlt).symm
      have q1 : (k : Int) < (s.size : Int) := by omega
      have HGD := Lib.hid hgd
      have Hk := Lib.hid hlt
      clear hgd hB hk
      by_cases hd : vis B = true
      · have HDG := Lib.hid hd
        have d1 : 32 ≤ B.toNat ∧ B.toNat ≤ 126 := by unfold vis at hd; rw [Bool.and_eq_true, decide_eq_true_eq, decide_eq_true_eq] at hd; exact hd
        have e1 : decide ((B.toNat : Int) < 32) = false := decide_eq_false (by omega)
        have e2 : decide ((126 : Int) < (B.toNat : Int)) = false := decide_eq_false (by omega)
        clear hd d1
        go_wp2_with fail
        go_roundw
        case rel => exact ⟨k + 1, Hk.out, by go_num, Lib.hid (fun i h => by
          rcases Nat.lt_or_ge i k with h3 | h3
          · exact HALL.out i h3
          · rw [show i = k by omega, HGD.out]; exact HDG.out), by first | rfl | trivial⟩
        case measure => have := Hk.out; simp [intOf]; omega
      · have hf : vis B = false := by simpa using hd
        have HL := Lib.hid (show lp s = .er 15 (k : Int) by rw [HL1.out, fb_hit s.data.toList k (by rw [HLN.out]; exact hlt) HALL.out (by rw [HGD.out]; exact hf)])
        have d1 : (B.toNat : Int) < 32 ∨ (126 : Int) < (B.toNat : Int) := by
          by_cases h4 : B.toNat < 32
          · exact .inl (by omega)
          · by_cases h5 : 126 < B.toNat
            · exact .inr (by omega)
            · unfold vis at hf
              rw [decide_eq_true (show 32 ≤ B.toNat by omega), decide_eq_true (show B.toNat ≤ 126 by omega)] at hf
              cases hf
        clear hd hf HGD HL1
        rcases d1 with d1 | d1
        · skip
          go_wp2_with (refine wpList_store_bl rfl 31 (.tmp 2) (.tmp 37) rfl w.heap.size [.int .i64 0, .int .i64 0, .int .i64 0, .int .i64 0, .int .i64 0, .int .i64 0, .int .i64 0, .int .i64 0, .int .i64 0] [.int .i64 0, .int .i64 0, .int .i64 0, .int .i64 0, .int .i64 0, .int .i64 0, .int .i64 0, .int .i64 0, .int .i64 0] rfl rfl HG.out.1 rfl (by kernel_rfl) rfl ?_; intro w8 hb8 hk8 hs8 hbel8; have HF8 := Lib.hid (And.intro hb8 (And.intro hk8 (And.intro hs8 hbel8))); clear hb8 hk8 hs8 hbel8)
          refine bodyPost_ret (results_three (ty := 31) rfl _ _ w.heap.size [.int .i64 0, .int .i64 0, .int .i64 0, .int .i64 0, .int .i64 0, .int .i64 0, .int .i64 0, .int .i64 0, .int .i64 0] _ _ _ rfl rfl rfl HF8.out.1 Tryd.underlying31 rfl (by kernel_rfl)) rfl ?_
          rw [HL.out]
          exact ⟨rfl, HF8.out.2.2.2 _ _ (Nat.le_refl _) HG.out.2.2.1⟩
        · have e1 : decide ((B.toNat : Int) < 32) = false := decide_eq_false (by omega)
          go_wp2_with (refine wpList_store_bl rfl 31 (.tmp 2) (.tmp 37) rfl w.heap.size [.int .i64 0, .int .i64 0, .int .i64 0, .int .i64 0, .int .i64 0, .int .i64 0, .int .i64 0, .int .i64 0, .int .i64 0] [.int .i64 0, .int .i64 0, .int .i64 0, .int .i64 0, .int .i64 0, .int .i64 0, .int .i64 0, .int .i64 0, .int .i64 0] rfl rfl HG.out.1 rfl (by kernel_rfl) rfl ?_; intro w8 hb8 hk8 hs8 hbel8; have HF8 := Lib.hid (And.intro hb8 (And.intro hk8 (And.intro hs8 hbel8))); clear hb8 hk8 hs8 hbel8)
          refine bodyPost_ret (results_three (ty := 31) rfl _ _ w.heap.size [.int .i64 0, .int .i64 0, .int .i64 0, .int .i64 0, .int .i64 0, .int .i64 0, .int .i64 0, .int .i64 0, .int .i64 0] _ _ _ rfl rfl rfl HF8.out.1 Tryd.underlying31 rfl (by kernel_rfl)) rfl ?_
          rw [HL.out]
          exact ⟨rfl, HF8.out.2.2.2 _ _ (Nat.le_refl _) HG.out.2.2.1⟩
    · have hke : k = s.size := by omega
      have HL2 := Lib.hid (HL1.out.trans (by rw [fb_none s.data.toList (by rw [HLN.out, ← hke]; exact HALL.out)]))
      have hst := ahead_start s.data.toList
      have hwp := wl_pos s.data.toList 0
      have hwn : (wl s.data.toList 0).length ≤ 1001 := Nat.le_trans (wds_len _ _ _) (by rw [HLN.out]; have := HS.out; omega)
      have hw0 : (wl s.data.toList 0)[0]? = some ((cutb s.data.toList).1, 0) := by rw [wl_eq]; rfl
      rw [HLN.out] at hst
      obtain ⟨C, hC⟩ : ∃ C, C = cutb s.data.toList := ⟨_, rfl⟩
      obtain ⟨WL, hWL⟩ : ∃ WL, WL = wl s.data.toList 0 := ⟨_, rfl⟩
      have hsp := split_is s HS.out W1
      rw [← hC] at HL2 hst hw0
      rw [← hWL] at hsp hst hwp hw0 hwn
      have HSP := Lib.hid hsp
      have HST := Lib.hid hst
      have HW0 := Lib.hid hw0
      have HWP := Lib.hid hwp
      have HWN := Lib.hid hwn
      clear HL1 HALL hk hlt hC hWL hsp hst hw0 hwp hwn k0
      subst hke
      go_wp2_with fail
      refine HSP.out.mono ?_
      rintro e2 w2 ⟨v2, rfl, ho2, hb2⟩
      obtain ⟨A2, c2, hv2⟩ := oshape ho2
      subst hv2
      have hrd := Reads.of_own ho2
      obtain ⟨ad, hA2, hab, hac⟩ := hrd.2 HWP.out
      subst hA2
      have HB2 := Lib.hid (And.intro (HG.out.1.below hb2) (And.intro (HG.out.2.1.below hb2) (Below.step HG.out.2.2.1 hb2)))
      have HAC := Lib.hid (And.intro hab hac)
      have HADB : Hid (w.heap.size < ad.block) := Lib.hid (by have h1 := (ho2.lt ad.block rfl).1; have h2 := HG.out.2.2.2; omega)
      have w00 := hac 0 _ (wv_get _ 0 _ HW0.out).1
      simp only [Nat.zero_mul, Nat.add_zero] at w00
      have w00' : w2.cell? ad = some (.string (Bs C.1)) := by simpa [Addr.add] using w00
      have hwp := HWP.out
      have hwp' : (0 : Int) < (WL.length : Int) := by omega
      have HSH := Lib.hid (shape_is (Bs C.1) w2)
      have hkc := kd_cases (Bs C.1)
      obtain ⟨KD, hKD⟩ : ∃ KD, KD = kd (Bs C.1) := ⟨_, rfl⟩
      rw [← hKD] at HSH HL2 hkc
      have HKC := Lib.hid hkc
      clear hb2 hrd hab hac w00 hkc hKD n0 n1 n2 n3 n4 n5 n6 n7 n8 HSP
      go_wp2_with fail
      refine HSH.out.mono ?_
      rintro e3 w3 ⟨rfl, rfl⟩
      have bn := HB2.out.2.1
      have n0 := bn.cell 0 _ rfl
      have n1 := bn.cell 1 _ rfl
      have n2 := bn.cell 2 _ rfl
      have n3 := bn.cell 3 _ rfl
      have n4 := bn.cell 4 _ rfl
      have n5 := bn.cell 5 _ rfl
      have n6 := bn.cell 6 _ rfl
      have n7 := bn.cell 7 _ rfl
      have n8 := bn.cell 8 _ rfl
      clear bn w00' HW0 ho2
      by_cases hz : KD = 0
      · have HL := Lib.hid (show lp s = .er 10 0 by rw [HL2.out, if_pos hz])
        rw [hz]
        clear HKC HSH HL2 hz
        go_wp2_with (refine wpList_store_bl rfl 31 (.tmp 2) (.tmp 51) rfl w.heap.size [.int .i64 0, .int .i64 0, .int .i64 0, .int .i64 0, .int .i64 0, .int .i64 0, .int .i64 0, .int .i64 0, .int .i64 0] [.int .i64 0, .int .i64 0, .int .i64 0, .int .i64 0, .int .i64 0, .int .i64 0, .int .i64 0, .int .i64 0, .int .i64 0] rfl rfl HB2.out.1 rfl (by kernel_rfl) rfl ?_; intro w8 hb8 hk8 hs8 hbel8; have HF8 := Lib.hid (And.intro hb8 (And.intro hk8 (And.intro hs8 hbel8))); clear hb8 hk8 hs8 hbel8)
        refine bodyPost_ret (results_three (ty := 31) rfl _ _ w.heap.size [.int .i64 0, .int .i64 0, .int .i64 0, .int .i64 0, .int .i64 0, .int .i64 0, .int .i64 0, .int .i64 0, .int .i64 0] _ _ _ rfl rfl rfl HF8.out.1 Tryd.underlying31 rfl (by kernel_rfl)) rfl ?_
        rw [HL.out]
        exact ⟨rfl, HF8.out.2.2.2 _ _ (Nat.le_refl _) HB2.out.2.2⟩
      have HL3 := Lib.hid (HL2.out.trans (if_neg hz))
      have kz : (KD == 0) = false := beq_eq_false_iff_ne.2 hz
      have HKD := Lib.hid (show KD = 1 ∨ KD = 2 ∨ KD = 3 ∨ KD = 4 from by rcases HKC.out with h | h; exact absurd h hz; exact h)
      obtain ⟨hw1, hw2⟩ := wt_is KD
      have HT8 := Lib.hid (tg_len KD)
      have HTG := Lib.hid (fun i j b => tg_lt KD i j b)
      obtain ⟨LL, hLL⟩ : ∃ LL, LL = tg KD := ⟨_, rfl⟩
      obtain ⟨WT, hWT⟩ : ∃ WT, WT = wt KD := ⟨_, rfl⟩
      rw [← hLL, ← hWT] at hw1 hw2
      rw [← hLL] at HL3 HT8 HTG
      rw [← hWT]
      have HLL := Lib.hid hLL
      have HWT := Lib.hid (And.intro hw1 hw2)
      have HZ := Lib.hid hz
      have l8 : (WT.size : Int) ≤ 8 := by rw [hw1]; have := HT8.out; omega
      have HB3 := Lib.hid (show W1.heap.size = w.heap.size + 2 from HG.out.2.2.2)
      clear HKC HSH HL2 hz hLL hWT hw1 hw2
      obtain ⟨i0i, hii, hiz⟩ := Option.map_eq_some_iff.1 infoI
      obtain ⟨hz0, hz1, hz2⟩ : i0i.zero = some (.int .i64 0) ∧ i0i.size = 1 ∧ i0i.bytes = 8 := by simpa using hiz
      have HII := Lib.hid hii
      have HZ0 := Lib.hid hz0
      have HZ1 := Lib.hid hz1
      have HZ2 := Lib.hid hz2
      clear hii hiz hz0 hz1 hz2
      go_wp2_with fail
      go_loopw [10, 11] (fun v j wr => ∃ (i : Nat) (cs ns : List Int) (r : List UInt8) (m : Bool), i ≤ LL.length ∧ j = .int .i64 (i : Int) ∧ Hid (lp s = fin_ (s.size : Int) (stp (s.size : Int) (LL.drop i) cs r m) ∧ cs = sa (LL.take i) [KD, 0, 0, 0, 0, 0, 0, 0, 0] ns ∧ ns.length = i ∧ r.length ≤ s.size) ∧ Hid (ahead s.size WL i r m) ∧ Hid (wr.ownsRow w2.heap.size 3 1 v ns.length (ns.map (Value.int .i64)) ∧ Below w2.heap.size w2 wr)) (fun _ j _ => LL.length + 1 - (intOf j).toNat)
      case atStart => exact ⟨0, [KD, 0, 0, 0, 0, 0, 0, 0, 0], [], C.2.1, C.2.2, Nat.zero_le _, rfl, Lib.hid ⟨HL3.out, rfl, rfl, HST.out.2.2⟩, HST, Lib.hid ⟨World.ownsRow_nil _ _ _ _, Below.refl _ _⟩⟩
      case round =>
        obtain ⟨i, cs, ns, r, m, hi, rfl, HP, HA, HM⟩ := hrel
        obtain ⟨A4, c4, hv4⟩ := oshape HM.out.1
        subst hv4
        have i0 : (0 : Int) ≤ (i : Int) := by omega
        have HY := Lib.hid (And.intro (HB2.out.1.below HM.out.2) (And.intro (HB2.out.2.1.below HM.out.2) (Below.step HB2.out.2.2 HM.out.2)))
        have bn := HY.out.2.1
        have m0 := bn.cell 0 _ rfl
        have m1 := bn.cell 1 _ rfl
        have m2 := bn.cell 2 _ rfl
        have m3 := bn.cell 3 _ rfl
        have m4 := bn.cell 4 _ rfl
        have m5 := bn.cell 5 _ rfl
        have m6 := bn.cell 6 _ rfl
        have m7 := bn.cell 7 _ rfl
        have m8 := bn.cell 8 _ rfl
        clear bn n0 n1 n2 n3 n4 n5 n6 n7 n8
        have wl1000 : (WL.length : Int) ≤ 1001 := by have := HWN.out; omega
        by_cases hlt : i < LL.length
        · obtain ⟨⟨j, b⟩, hjb⟩ : ∃ x, LL[i]? = some x := ⟨LL[i], List.getElem?_eq_getElem hlt⟩
          have hdr : LL.drop i = (j, b) :: LL.drop (i + 1) := by
            have e1 : LL[i] = (j, b) := by rw [List.getElem?_eq_getElem hlt] at hjb; injection hjb
            rw [← e1]; exact List.drop_eq_getElem_cons hlt
          have HP2 : Hid (lp s = fin_ (s.size : Int) (stp (s.size : Int) ((j, b) :: LL.drop (i + 1)) cs r m)) := Lib.hid (by rw [← hdr]; exact HP.out.1)
          have hwl : i < WT.size := by rw [HWT.out.1]; exact hlt
          have q1 : (i : Int) < (WT.size : Int) := by omega
          have i8 : (i : Int) ≤ 8 := by omega
          have HJB := Lib.hid hjb
          have Hi := Lib.hid hlt
          clear hjb hdr hi hlt
          rcases m with _ | _
          · have HL := Lib.hid (show lp s = .er 11 (s.size : Int) by rw [HP2.out, stp_cons]; rfl)
            have hal := ahead_no HA.out
            have q2 : (WL.length : Int) ≤ (i : Int) + 1 := by omega
            clear HP2 hal
            go_wp2_with (refine wpList_store_bl rfl 31 (.tmp 2) (.tmp 63) rfl w.heap.size [.int .i64 0, .int .i64 0, .int .i64 0, .int .i64 0, .int .i64 0, .int .i64 0, .int .i64 0, .int .i64 0, .int .i64 0] [.int .i64 0, .int .i64 0, .int .i64 0, .int .i64 0, .int .i64 0, .int .i64 0, .int .i64 0, .int .i64 0, .int .i64 0] rfl rfl HY.out.1 rfl (by kernel_rfl) rfl ?_; intro w8 hb8 hk8 hs8 hbel8; have HF8 := Lib.hid (And.intro hb8 (And.intro hk8 (And.intro hs8 hbel8))); clear hb8 hk8 hs8 hbel8)
            refine bodyPost_ret (results_three (ty := 31) rfl _ _ w.heap.size [.int .i64 0, .int .i64 0, .int .i64 0, .int .i64 0, .int .i64 0, .int .i64 0, .int .i64 0, .int .i64 0, .int .i64 0] _ _ _ rfl rfl rfl HF8.out.1 Tryd.underlying31 rfl (by kernel_rfl)) rfl ?_
            rw [HL.out]
            exact ⟨rfl, HF8.out.2.2.2 _ _ (Nat.le_refl _) HY.out.2.2⟩

          have hat := ahead_at HA.out
          have hast := ahead_step HA.out
          obtain ⟨D, hD⟩ : ∃ D, D = cutb r := ⟨_, rfl⟩
          obtain ⟨AT, hAT⟩ : ∃ AT : Int, AT = (s.size : Int) - (r.length : Int) := ⟨_, rfl⟩
          have hatc : ((s.size - r.length : Nat) : Int) = AT := by have := HP.out.2.2.2; omega
          have HP3 : Hid (lp s = fin_ (s.size : Int) (if (rdv b (Bs D.1)).1 = 0 then stp (s.size : Int) (LL.drop (i + 1)) (cs.set j (rdv b (Bs D.1)).2) D.2.1 D.2.2 else .er (rdv b (Bs D.1)).1 AT)) := Lib.hid (by rw [HP2.out, stp_cons, ← hD, hAT]; rfl)
          have hDl : D.1.length ≤ 1000 ∧ D.2.1.length ≤ r.length := by rw [hD]; have := cutb_len r; have := HP.out.2.2.2; have := HS.out; omega
          rw [← hD] at hat hast
          obtain ⟨hat1, hat2⟩ := hat
          have hc0 := HAC.out.2 _ _ (wv_get WL (i + 1) _ hat2).1
          have hc1 := HAC.out.2 _ _ (wv_get WL (i + 1) _ hat2).2
          have hc1' : w2.cell? (ad.add ((i + 1) * 2 + 1)) = some (.int .i64 AT) := by rw [← hatc]; exact hc1
          have hbl : (ad.add ((i + 1) * 2)).block < w2.heap.size := by rw [block_of_add]; exact HAC.out.1
          have d0 : wr.cell? (ad.add ((i + 1) * 2)) = some (.string (Bs D.1)) := (HM.out.2.cell (p := ad.add ((i + 1) * 2)) hbl).trans hc0
          have d1 : wr.cell? ⟨(ad.add ((i + 1) * 2)).block, (ad.add ((i + 1) * 2)).off + 1, none⟩ = some (.int .i64 AT) := by
            rw [← addp _ 1 (by decide) (World.cell?_spot d0)]
            exact (HM.out.2.cell (p := (ad.add ((i + 1) * 2)).add 1) (by rw [block_of_add]; exact hbl)).trans (by rw [add_of_add]; exact hc1')
          have q2 : decide ((WL.length : Int) ≤ (i : Int) + 1) = false := decide_eq_false (by omega)
          have q3 : (i : Int) + 1 < (WL.length : Int) := by omega
          have hAT2 : 0 ≤ AT ∧ AT ≤ 1000 := by have := HP.out.2.2.2; have := HS.out; omega
          have HAS := Lib.hid hast
          have HDL := Lib.hid hDl
          obtain ⟨WX, hWX⟩ : ∃ WX, WX = Bs D.1 := ⟨_, rfl⟩
          rw [← hWX] at HP3 d0
          have HWX := Lib.hid hWX
          obtain ⟨B5, hB5⟩ : ∃ B5, B5 = wr.heap.size := ⟨_, rfl⟩
          have wt0 : WT[i]'hwl = if b = true then 115 else 110 := by rw [get_bt WT i hwl]; exact HWT.out.2 i j b HJB.out
          clear hat1 hat2 hc0 hc1 hc1' hbl hast hDl hD hAT hatc HP2 hWX
          cases b with
          | true =>
            have wt1 : WT[i]'hwl = 115 := wt0
            clear wt0
            rcases rdv_side WX with ⟨e1, e2⟩ | ⟨e1, e2, e3⟩ | ⟨e1, e2, e3⟩
            · have HRV := Lib.hid e2
              have e3 : (WX.toList == [115, 101, 108, 108]) = false := by rw [beq_iff_eq.1 e1]; rfl
              clear e2
              have HO1 := Lib.hid (World.ownsRow.alloc (w := (wr.alloc (Obj.cells #[.string WX, .int .i64 AT] 70))) (World.ownsRow.alloc (w := wr) HM.out.1 (Obj.cells #[.string WX, .int .i64 AT] 70)) (Obj.cells #[.int .i64 0] 3))
              have HRD := Lib.hid (reads_newN (wr.alloc (Obj.cells #[.string WX, .int .i64 AT] 70)) 1 1 [.int .i64 0] 3 rfl)
              rw [World.size_alloc] at HRD
              have N1 := Lib.hid (show ns.length + 1 ≤ maxLen from by have := HP.out.2.2.1; have := Hi.out; have := HT8.out; unfold maxLen; omega)
              have N2 := Lib.hid (show (ns.length + 1) * 8 ≤ 140737488355328 from by have := HP.out.2.2.1; have := Hi.out; have := HT8.out; omega)
              have N3 := Lib.hid (show w2.heap.size ≤ ((wr.alloc (Obj.cells #[.string WX, .int .i64 AT] 70)).alloc (Obj.cells #[.int .i64 0] 3)).heap.size from by have := (HM.out.2.alloc HM.out.2.size (Obj.cells #[.string WX, .int .i64 AT] 70)).size; rw [World.size_alloc]; omega)
              have NV := Lib.hid (show ∀ u ∈ ([.int .i64 0] : List Value), u.oneCell' = true from by intro u hu; simp only [List.mem_cons, List.not_mem_nil, or_false] at hu; subst hu; rfl)
              have hB2 := Lib.hid (show Below w2.heap.size w2 ((wr.alloc (Obj.cells #[.string WX, .int .i64 AT] 70)).alloc (Obj.cells #[.int .i64 0] 3)) from (HM.out.2.alloc HM.out.2.size (Obj.cells #[.string WX, .int .i64 AT] 70)).alloc (by have := (HM.out.2.alloc HM.out.2.size (Obj.cells #[.string WX, .int .i64 AT] 70)).size; exact this) _)
              go_wp2_with (at_builtin; refine wpList_append_any _ rfl (.tmp 89) (.tmp 91) 71 rfl w2.heap.size 3 i0i (.int .i64 0) 1 8 Tryd.underlying71 HII.out HZ0.out HZ1.out HZ2.out rfl (by decide) _ ns.length (ns.map (Value.int .i64)) rfl HO1.out _ (some ⟨wr.heap.size + 1, 0, none⟩) 1 1 [.int .i64 0] rfl HRD.out NV.out N1.out N2.out N3.out ?_; intro v3 w3 hown3 hgrow3 hblk3; have HPP := Lib.hid (And.intro hown3 hgrow3); clear hown3 hgrow3 hblk3)
              go_roundw
              case rel =>
                refine ⟨i + 1, cs.set j 0, ns ++ [0], D.2.1, D.2.2, Hi.out, by go_num, Lib.hid ⟨?_, ?_, ?_, ?_⟩, HAS, Lib.hid ⟨?_, Below.grown hB2.out HPP.out.2 N3.out (fun b e => (HO1.out.lt b e).1)⟩⟩
                · rw [HP3.out, HRV.out]; rfl
                · rw [sa_snoc _ _ _ HJB.out HP.out.2.2.1, ← HP.out.2.1]
                · rw [List.length_append, HP.out.2.2.1]; rfl
                · exact Nat.le_trans HDL.out.2 HP.out.2.2.2
                · rw [List.length_append, List.map_append]; exact HPP.out.1
              case measure => have := Hi.out; simp [intOf]; omega
            · have HRV := Lib.hid e3
              clear e3
              have HO1 := Lib.hid (World.ownsRow.alloc (w := (wr.alloc (Obj.cells #[.string WX, .int .i64 AT] 70))) (World.ownsRow.alloc (w := wr) HM.out.1 (Obj.cells #[.string WX, .int .i64 AT] 70)) (Obj.cells #[.int .i64 1] 3))
              have HRD := Lib.hid (reads_newN (wr.alloc (Obj.cells #[.string WX, .int .i64 AT] 70)) 1 1 [.int .i64 1] 3 rfl)
              rw [World.size_alloc] at HRD
              have N1 := Lib.hid (show ns.length + 1 ≤ maxLen from by have := HP.out.2.2.1; have := Hi.out; have := HT8.out; unfold maxLen; omega)
              have N2 := Lib.hid (show (ns.length + 1) * 8 ≤ 140737488355328 from by have := HP.out.2.2.1; have := Hi.out; have := HT8.out; omega)
              have N3 := Lib.hid (show w2.heap.size ≤ ((wr.alloc (Obj.cells #[.string WX, .int .i64 AT] 70)).alloc (Obj.cells #[.int .i64 1] 3)).heap.size from by have := (HM.out.2.alloc HM.out.2.size (Obj.cells #[.string WX, .int .i64 AT] 70)).size; rw [World.size_alloc]; omega)
              have NV := Lib.hid (show ∀ u ∈ ([.int .i64 1] : List Value), u.oneCell' = true from by intro u hu; simp only [List.mem_cons, List.not_mem_nil, or_false] at hu; subst hu; rfl)
              have hB2 := Lib.hid (show Below w2.heap.size w2 ((wr.alloc (Obj.cells #[.string WX, .int .i64 AT] 70)).alloc (Obj.cells #[.int .i64 1] 3)) from (HM.out.2.alloc HM.out.2.size (Obj.cells #[.string WX, .int .i64 AT] 70)).alloc (by have := (HM.out.2.alloc HM.out.2.size (Obj.cells #[.string WX, .int .i64 AT] 70)).size; exact this) _)
              go_wp2_with (at_builtin; refine wpList_append_any _ rfl (.tmp 89) (.tmp 91) 71 rfl w2.heap.size 3 i0i (.int .i64 0) 1 8 Tryd.underlying71 HII.out HZ0.out HZ1.out HZ2.out rfl (by decide) _ ns.length (ns.map (Value.int .i64)) rfl HO1.out _ (some ⟨wr.heap.size + 1, 0, none⟩) 1 1 [.int .i64 1] rfl HRD.out NV.out N1.out N2.out N3.out ?_; intro v3 w3 hown3 hgrow3 hblk3; have HPP := Lib.hid (And.intro hown3 hgrow3); clear hown3 hgrow3 hblk3)
              go_roundw
              case rel =>
                refine ⟨i + 1, cs.set j 1, ns ++ [1], D.2.1, D.2.2, Hi.out, by go_num, Lib.hid ⟨?_, ?_, ?_, ?_⟩, HAS, Lib.hid ⟨?_, Below.grown hB2.out HPP.out.2 N3.out (fun b e => (HO1.out.lt b e).1)⟩⟩
                · rw [HP3.out, HRV.out]; rfl
                · rw [sa_snoc _ _ _ HJB.out HP.out.2.2.1, ← HP.out.2.1]
                · rw [List.length_append, HP.out.2.2.1]; rfl
                · exact Nat.le_trans HDL.out.2 HP.out.2.2.2
                · rw [List.length_append, List.map_append]; exact HPP.out.1
              case measure => have := Hi.out; simp [intOf]; omega
            · have HL := Lib.hid (show lp s = .er 10 AT by rw [HP3.out, e3]; rfl)
              clear e3 HP3
              have gz0 : Below wr.heap.size wr (wr.alloc (Obj.cells #[.string WX, .int .i64 AT] 70)) := by go_grown
              have bz0 := Bl.new wr [.string WX, .int .i64 AT] 70
              have gz1 := gz0.drew
              have hd : (Bl (w.heap.size + 1) [.int .i64 0, .int .i64 0, .int .i64 0, .int .i64 0, .int .i64 0, .int .i64 0, .int .i64 0, .int .i64 0, .int .i64 0] (wr.alloc (Obj.cells #[.string WX, .int .i64 AT] 70)).drew ∧ Bl wr.heap.size [.string WX, .int .i64 AT] (wr.alloc (Obj.cells #[.string WX, .int .i64 AT] 70)).drew ∧ Bl w.heap.size [.int .i64 0, .int .i64 0, .int .i64 0, .int .i64 0, .int .i64 0, .int .i64 0, .int .i64 0, .int .i64 0, .int .i64 0] (wr.alloc (Obj.cells #[.string WX, .int .i64 AT] 70)).drew ∧ Below w.heap.size w (wr.alloc (Obj.cells #[.string WX, .int .i64 AT] 70)).drew) := ⟨HY.out.2.1.below gz1, bz0, HY.out.1.below gz1, (Below.step HY.out.2.2 gz0).drew⟩
              clear gz0 gz1 bz0
              go_wp2_with fail
              refine wp_region_held_drew (S := fun w' => Bl (w.heap.size + 1) [.int .i64 0, .int .i64 0, .int .i64 0, .int .i64 0, .int .i64 0, .int .i64 0, .int .i64 0, .int .i64 0, .int .i64 0] w' ∧ Bl wr.heap.size [.string WX, .int .i64 AT] w' ∧ Bl w.heap.size [.int .i64 0, .int .i64 0, .int .i64 0, .int .i64 0, .int .i64 0, .int .i64 0, .int .i64 0, .int .i64 0, .int .i64 0] w' ∧ Below w.heap.size w w') (by kernel_rfl) hd (fun hHeld => ?_)
              refine wpAnyH_take (i := 0) (oi := { dst := some 83, op := Op.load 31 (Operand.tmp 5), type := 31, pos := "ref.go:96", after := #[], guard := none }) (v := .agg (List.toArray [.int .i64 0, .int .i64 0, .int .i64 0, .int .i64 0, .int .i64 0, .int .i64 0, .int .i64 0, .int .i64 0, .int .i64 0])) rfl (by as_aux_lemma => kernel_rfl) (by as_aux_lemma => kernel_rfl) (by as_aux_lemma => kernel_rfl) (fun _ _ _ h => h) (Or.inl ⟨by rfl, ?_⟩) (by assumption) ?_
              · intro wq hSw
                obtain ⟨s1, s2, s3, s4⟩ := hSw
                have x0 := s1.cell 0 _ rfl
                have x1 := s1.cell 1 _ rfl
                have x2 := s1.cell 2 _ rfl
                have x3 := s1.cell 3 _ rfl
                have x4 := s1.cell 4 _ rfl
                have x5 := s1.cell 5 _ rfl
                have x6 := s1.cell 6 _ rfl
                have x7 := s1.cell 7 _ rfl
                have x8 := s1.cell 8 _ rfl
                go_simp
                try with_reducible rfl
              simp only [Act.put, List.setIfInBounds_toArray, List.set_cons_zero, List.set_cons_succ]
              refine wpAnyH_take (i := 1) (oi := { dst := some 84, op := Op.fieldAddr 70 (Operand.tmp 12) 1, type := 0, pos := "ref.go:96", after := #[{ on := 4, ground := Ground.gcOnly Departure.lateStores }], guard := none }) (v := .pointer (some ⟨wr.heap.size, 1, none⟩)) rfl (by as_aux_lemma => kernel_rfl) (by as_aux_lemma => kernel_rfl) (by as_aux_lemma => kernel_rfl) (fun _ _ _ h => h) (Or.inl ⟨by rfl, ?_⟩) (by assumption) ?_
              · intro wq hSw
                go_simp
                try with_reducible rfl
              simp only [Act.put, List.setIfInBounds_toArray, List.set_cons_zero, List.set_cons_succ]
              refine wpAnyH_take (i := 2) (oi := { dst := some 85, op := Op.load 3 (Operand.tmp 84), type := 3, pos := "ref.go:96", after := #[{ on := 1, ground := Ground.data }, { on := 4, ground := Ground.gcOnly Departure.lateStores }], guard := none }) (v := .int .i64 AT) rfl (by as_aux_lemma => kernel_rfl) (by as_aux_lemma => kernel_rfl) (by as_aux_lemma => kernel_rfl) (fun _ _ _ h => h) (Or.inl ⟨by rfl, ?_⟩) (by assumption) ?_
              · intro wq hSw
                obtain ⟨s1, s2, s3, s4⟩ := hSw
                have x1 := s2.cell 1 _ rfl
                go_simp
                try with_reducible rfl
              simp only [Act.put, List.setIfInBounds_toArray, List.set_cons_zero, List.set_cons_succ]
              refine wpAnyH_ready (rs := [3]) (by as_aux_lemma => kernel_rfl) (by simp) ?_
              refine AllReadyH.cons (o := { dst := none, op := Op.store 31 (Operand.tmp 2) (Operand.tmp 83), type := 0, pos := "ref.go:96", after := #[{ on := 0, ground := Ground.data }, { on := 0, ground := Ground.phase }, { on := 1, ground := Ground.textOnly Departure.lateStores }, { on := 2, ground := Ground.textOnly Departure.lateStores }], guard := none }) rfl (fun K2 hK => ?_) AllReadyH.nil
              refine wp_store_bl 31 (.tmp 2) (.tmp 83) rfl w.heap.size [.int .i64 0, .int .i64 0, .int .i64 0, .int .i64 0, .int .i64 0, .int .i64 0, .int .i64 0, .int .i64 0, .int .i64 0] [.int .i64 0, .int .i64 0, .int .i64 0, .int .i64 0, .int .i64 0, .int .i64 0, .int .i64 0, .int .i64 0, .int .i64 0] rfl rfl hd.2.2.1 rfl (by kernel_rfl) rfl (fun w8 hb8 hk8 hs8 hbel8 => ?_)
              have hne1 : w.heap.size + 1 ≠ w.heap.size := by omega
              have hne2 : wr.heap.size ≠ w.heap.size := by have := HY.out.2.1.lt; omega
              have hd8 : (Bl (w.heap.size + 1) [.int .i64 0, .int .i64 0, .int .i64 0, .int .i64 0, .int .i64 0, .int .i64 0, .int .i64 0, .int .i64 0, .int .i64 0] w8 ∧ Bl wr.heap.size [.string WX, .int .i64 AT] w8 ∧ Bl w.heap.size [.int .i64 0, .int .i64 0, .int .i64 0, .int .i64 0, .int .i64 0, .int .i64 0, .int .i64 0, .int .i64 0, .int .i64 0] w8 ∧ Below w.heap.size w w8) := ⟨hd.1.same (hk8 _ hne1 hd.1.lt), hd.2.1.same (hk8 _ hne2 hd.2.1.lt), hb8, hbel8 _ _ (Nat.le_refl _) hd.2.2.2⟩
              refine hK.out _ _ hd8 (fun hHeld => ?_)
              clear hK K2
              try simp only [Act.put, List.setIfInBounds_toArray, List.set_cons_zero, List.set_cons_succ]
              refine wpAnyH_take (i := 4) (oi := { dst := some 3, op := Op.assign (Operand.const (Value.int IntKind.i64 10)), type := 3, pos := "ref.go:96", after := #[{ on := 3, ground := Ground.chain }, { on := 0, ground := Ground.phase }, { on := 1, ground := Ground.textOnly Departure.lateStores }, { on := 2, ground := Ground.textOnly Departure.lateStores }, { on := 3, ground := Ground.phase }], guard := none }) (v := .int .i64 10) rfl (by as_aux_lemma => kernel_rfl) (by as_aux_lemma => kernel_rfl) (by as_aux_lemma => kernel_rfl) (fun _ _ _ h => h) (Or.inl ⟨by rfl, ?_⟩) (by assumption) ?_
              · intro wq hSw
                go_simp
                try with_reducible rfl
              simp only [Act.put, List.setIfInBounds_toArray, List.set_cons_zero, List.set_cons_succ]
              refine wpAnyH_take (i := 5) (oi := { dst := some 4, op := Op.assign (Operand.tmp 85), type := 3, pos := "ref.go:96", after := #[{ on := 2, ground := Ground.data }, { on := 4, ground := Ground.chain }, { on := 0, ground := Ground.phase }, { on := 1, ground := Ground.phase }, { on := 2, ground := Ground.phase }, { on := 3, ground := Ground.phase }, { on := 4, ground := Ground.phase }], guard := none }) (v := .int .i64 AT) rfl (by as_aux_lemma => kernel_rfl) (by as_aux_lemma => kernel_rfl) (by as_aux_lemma => kernel_rfl) (fun _ _ _ h => h) (Or.inl ⟨by rfl, ?_⟩) (by assumption) ?_
              · intro wq hSw
                go_simp
                try with_reducible rfl
              simp only [Act.put, List.setIfInBounds_toArray, List.set_cons_zero, List.set_cons_succ]
              refine wpAnyH_done (by as_aux_lemma => kernel_rfl) ?_ _
              go_wp2_with fail
              refine bodyPost_ret (results_three (ty := 31) rfl _ _ w.heap.size [.int .i64 0, .int .i64 0, .int .i64 0, .int .i64 0, .int .i64 0, .int .i64 0, .int .i64 0, .int .i64 0, .int .i64 0] _ _ _ rfl rfl rfl hd8.2.2.1 Tryd.underlying31 rfl (by kernel_rfl)) rfl ?_
              rw [HL.out]
              exact ⟨rfl, hd8.2.2.2⟩
          | false =>
            have wt1 : WT[i]'hwl = 110 := wt0
            clear wt0
            have hnum := fun W => num_is WX (by rw [HWX.out, Bs_size]; exact HDL.out.1) W
            have HNUM := Lib.hid hnum
            clear hnum
            go_wp2_with fail
            refine (HNUM.out _).mono ?_
            rintro e7 w7 ⟨x7, rfl, hx7, hb7⟩
            have gz0 : Below wr.heap.size wr (wr.alloc (Obj.cells #[.string WX, .int .i64 AT] 70)) := by go_grown
            have bz0 := Bl.new wr [.string WX, .int .i64 AT] 70
            have gz7 := Below.step gz0 hb7
            have HY7 : Hid (Bl w.heap.size [.int .i64 0, .int .i64 0, .int .i64 0, .int .i64 0, .int .i64 0, .int .i64 0, .int .i64 0, .int .i64 0, .int .i64 0] w7 ∧ Bl (w.heap.size + 1) [.int .i64 0, .int .i64 0, .int .i64 0, .int .i64 0, .int .i64 0, .int .i64 0, .int .i64 0, .int .i64 0, .int .i64 0] w7 ∧ Bl wr.heap.size [.string WX, .int .i64 AT] w7 ∧ Below w.heap.size w w7) := Lib.hid ⟨HY.out.1.below gz7, HY.out.2.1.below gz7, bz0.below hb7, Below.step HY.out.2.2 gz7⟩
            have HM7 : Hid (w7.ownsRow w2.heap.size 3 1 (.slice A4 ns.length c4) ns.length (ns.map (Value.int .i64)) ∧ Below w2.heap.size w2 w7) := Lib.hid ⟨rkept HM.out.1 gz7, Below.step HM.out.2 gz7⟩
            have HX7 := Lib.hid hx7
            clear gz0 bz0 gz7 hb7 hx7 m0 m1 m2 m3 m4 m5 m6 m7 m8 d0 d1
            rcases hdg : digs WX.data.toList with _ | _
            · have HL := Lib.hid (show lp s = .er 13 AT by rw [HP3.out, rdv_numb, hdg]; rfl)
              clear HP3 hdg
              have gz1 : Below w7.heap.size w7 w7.drew := (Below.refl _ _).drew
              have hd : (Bl (w.heap.size + 1) [.int .i64 0, .int .i64 0, .int .i64 0, .int .i64 0, .int .i64 0, .int .i64 0, .int .i64 0, .int .i64 0, .int .i64 0] w7.drew ∧ Bl wr.heap.size [.string WX, .int .i64 AT] w7.drew ∧ Bl w.heap.size [.int .i64 0, .int .i64 0, .int .i64 0, .int .i64 0, .int .i64 0, .int .i64 0, .int .i64 0, .int .i64 0, .int .i64 0] w7.drew ∧ Below w.heap.size w w7.drew) := ⟨HY7.out.2.1.below gz1, HY7.out.2.2.1.below gz1, HY7.out.1.below gz1, HY7.out.2.2.2.drew⟩
              clear gz1
              go_wp2_with fail
              refine wp_region_held_drew (S := fun w' => Bl (w.heap.size + 1) [.int .i64 0, .int .i64 0, .int .i64 0, .int .i64 0, .int .i64 0, .int .i64 0, .int .i64 0, .int .i64 0, .int .i64 0] w' ∧ Bl wr.heap.size [.string WX, .int .i64 AT] w' ∧ Bl w.heap.size [.int .i64 0, .int .i64 0, .int .i64 0, .int .i64 0, .int .i64 0, .int .i64 0, .int .i64 0, .int .i64 0, .int .i64 0] w' ∧ Below w.heap.size w w') (by kernel_rfl) hd (fun hHeld => ?_)
              refine wpAnyH_take (i := 0) (oi := { dst := some 101, op := Op.load 31 (Operand.tmp 5), type := 31, pos := "ref.go:107", after := #[], guard := none }) (v := .agg (List.toArray [.int .i64 0, .int .i64 0, .int .i64 0, .int .i64 0, .int .i64 0, .int .i64 0, .int .i64 0, .int .i64 0, .int .i64 0])) rfl (by as_aux_lemma => kernel_rfl) (by as_aux_lemma => kernel_rfl) (by as_aux_lemma => kernel_rfl) (fun _ _ _ h => h) (Or.inl ⟨by rfl, ?_⟩) (by assumption) ?_
              · intro wq hSw
                obtain ⟨s1, s2, s3, s4⟩ := hSw
                have x0 := s1.cell 0 _ rfl
                have x1 := s1.cell 1 _ rfl
                have x2 := s1.cell 2 _ rfl
                have x3 := s1.cell 3 _ rfl
                have x4 := s1.cell 4 _ rfl
                have x5 := s1.cell 5 _ rfl
                have x6 := s1.cell 6 _ rfl
                have x7 := s1.cell 7 _ rfl
                have x8 := s1.cell 8 _ rfl
                go_simp
                try with_reducible rfl
              simp only [Act.put, List.setIfInBounds_toArray, List.set_cons_zero, List.set_cons_succ]
              refine wpAnyH_take (i := 1) (oi := { dst := some 102, op := Op.fieldAddr 70 (Operand.tmp 12) 1, type := 0, pos := "ref.go:107", after := #[{ on := 4, ground := Ground.gcOnly Departure.lateStores }], guard := none }) (v := .pointer (some ⟨wr.heap.size, 1, none⟩)) rfl (by as_aux_lemma => kernel_rfl) (by as_aux_lemma => kernel_rfl) (by as_aux_lemma => kernel_rfl) (fun _ _ _ h => h) (Or.inl ⟨by rfl, ?_⟩) (by assumption) ?_
              · intro wq hSw
                go_simp
                try with_reducible rfl
              simp only [Act.put, List.setIfInBounds_toArray, List.set_cons_zero, List.set_cons_succ]
              refine wpAnyH_take (i := 2) (oi := { dst := some 103, op := Op.load 3 (Operand.tmp 102), type := 3, pos := "ref.go:107", after := #[{ on := 1, ground := Ground.data }, { on := 4, ground := Ground.gcOnly Departure.lateStores }], guard := none }) (v := .int .i64 AT) rfl (by as_aux_lemma => kernel_rfl) (by as_aux_lemma => kernel_rfl) (by as_aux_lemma => kernel_rfl) (fun _ _ _ h => h) (Or.inl ⟨by rfl, ?_⟩) (by assumption) ?_
              · intro wq hSw
                obtain ⟨s1, s2, s3, s4⟩ := hSw
                have x1 := s2.cell 1 _ rfl
                go_simp
                try with_reducible rfl
              simp only [Act.put, List.setIfInBounds_toArray, List.set_cons_zero, List.set_cons_succ]
              refine wpAnyH_ready (rs := [3]) (by as_aux_lemma => kernel_rfl) (by simp) ?_
              refine AllReadyH.cons (o := { dst := none, op := Op.store 31 (Operand.tmp 2) (Operand.tmp 101), type := 0, pos := "ref.go:107", after := #[{ on := 0, ground := Ground.data }, { on := 0, ground := Ground.phase }, { on := 1, ground := Ground.textOnly Departure.lateStores }, { on := 2, ground := Ground.textOnly Departure.lateStores }], guard := none }) rfl (fun K2 hK => ?_) AllReadyH.nil
              refine wp_store_bl 31 (.tmp 2) (.tmp 101) rfl w.heap.size [.int .i64 0, .int .i64 0, .int .i64 0, .int .i64 0, .int .i64 0, .int .i64 0, .int .i64 0, .int .i64 0, .int .i64 0] [.int .i64 0, .int .i64 0, .int .i64 0, .int .i64 0, .int .i64 0, .int .i64 0, .int .i64 0, .int .i64 0, .int .i64 0] rfl rfl hd.2.2.1 rfl (by kernel_rfl) rfl (fun w8 hb8 hk8 hs8 hbel8 => ?_)
              have hne1 : w.heap.size + 1 ≠ w.heap.size := by omega
              have hne2 : wr.heap.size ≠ w.heap.size := by have := HY.out.2.1.lt; omega
              have hd8 : (Bl (w.heap.size + 1) [.int .i64 0, .int .i64 0, .int .i64 0, .int .i64 0, .int .i64 0, .int .i64 0, .int .i64 0, .int .i64 0, .int .i64 0] w8 ∧ Bl wr.heap.size [.string WX, .int .i64 AT] w8 ∧ Bl w.heap.size [.int .i64 0, .int .i64 0, .int .i64 0, .int .i64 0, .int .i64 0, .int .i64 0, .int .i64 0, .int .i64 0, .int .i64 0] w8 ∧ Below w.heap.size w w8) := ⟨hd.1.same (hk8 _ hne1 hd.1.lt), hd.2.1.same (hk8 _ hne2 hd.2.1.lt), hb8, hbel8 _ _ (Nat.le_refl _) hd.2.2.2⟩
              refine hK.out _ _ hd8 (fun hHeld => ?_)
              clear hK K2
              try simp only [Act.put, List.setIfInBounds_toArray, List.set_cons_zero, List.set_cons_succ]
              refine wpAnyH_take (i := 4) (oi := { dst := some 3, op := Op.assign (Operand.const (Value.int IntKind.i64 13)), type := 3, pos := "ref.go:107", after := #[{ on := 3, ground := Ground.chain }, { on := 0, ground := Ground.phase }, { on := 1, ground := Ground.textOnly Departure.lateStores }, { on := 2, ground := Ground.textOnly Departure.lateStores }, { on := 3, ground := Ground.phase }], guard := none }) (v := .int .i64 13) rfl (by as_aux_lemma => kernel_rfl) (by as_aux_lemma => kernel_rfl) (by as_aux_lemma => kernel_rfl) (fun _ _ _ h => h) (Or.inl ⟨by rfl, ?_⟩) (by assumption) ?_
              · intro wq hSw
                go_simp
                try with_reducible rfl
              simp only [Act.put, List.setIfInBounds_toArray, List.set_cons_zero, List.set_cons_succ]
              refine wpAnyH_take (i := 5) (oi := { dst := some 4, op := Op.assign (Operand.tmp 103), type := 3, pos := "ref.go:107", after := #[{ on := 2, ground := Ground.data }, { on := 4, ground := Ground.chain }, { on := 0, ground := Ground.phase }, { on := 1, ground := Ground.phase }, { on := 2, ground := Ground.phase }, { on := 3, ground := Ground.phase }, { on := 4, ground := Ground.phase }], guard := none }) (v := .int .i64 AT) rfl (by as_aux_lemma => kernel_rfl) (by as_aux_lemma => kernel_rfl) (by as_aux_lemma => kernel_rfl) (fun _ _ _ h => h) (Or.inl ⟨by rfl, ?_⟩) (by assumption) ?_
              · intro wq hSw
                go_simp
                try with_reducible rfl
              simp only [Act.put, List.setIfInBounds_toArray, List.set_cons_zero, List.set_cons_succ]
              refine wpAnyH_done (by as_aux_lemma => kernel_rfl) ?_ _
              go_wp2_with fail
              refine bodyPost_ret (results_three (ty := 31) rfl _ _ w.heap.size [.int .i64 0, .int .i64 0, .int .i64 0, .int .i64 0, .int .i64 0, .int .i64 0, .int .i64 0, .int .i64 0, .int .i64 0] _ _ _ rfl rfl rfl hd8.2.2.1 Tryd.underlying31 rfl (by kernel_rfl)) rfl ?_
              rw [HL.out]
              exact ⟨rfl, hd8.2.2.2⟩
            · have HRV := Lib.hid (show rdv false WX = (0, x7) by rw [rdv_numb, if_pos hdg, HX7.out hdg])
              clear hdg
              have HO1 := Lib.hid (World.ownsRow.alloc (w := w7) HM7.out.1 (Obj.cells #[.int .i64 x7] 3))
              have HRD := Lib.hid (reads_newN w7 1 1 [.int .i64 x7] 3 rfl)

              have N1 := Lib.hid (show ns.length + 1 ≤ maxLen from by have := HP.out.2.2.1; have := Hi.out; have := HT8.out; unfold maxLen; omega)
              have N2 := Lib.hid (show (ns.length + 1) * 8 ≤ 140737488355328 from by have := HP.out.2.2.1; have := Hi.out; have := HT8.out; omega)
              have N3 := Lib.hid (show w2.heap.size ≤ (w7.alloc (Obj.cells #[.int .i64 x7] 3)).heap.size from by have := HM7.out.2.size; rw [World.size_alloc]; omega)
              have NV := Lib.hid (show ∀ u ∈ ([.int .i64 x7] : List Value), u.oneCell' = true from by intro u hu; simp only [List.mem_cons, List.not_mem_nil, or_false] at hu; subst hu; rfl)
              have hB2 := Lib.hid (show Below w2.heap.size w2 (w7.alloc (Obj.cells #[.int .i64 x7] 3)) from HM7.out.2.alloc (by have := HM7.out.2.size; exact this) _)
              go_wp2_with (at_builtin; refine wpList_append_any _ rfl (.tmp 104) (.tmp 106) 71 rfl w2.heap.size 3 i0i (.int .i64 0) 1 8 Tryd.underlying71 HII.out HZ0.out HZ1.out HZ2.out rfl (by decide) _ ns.length (ns.map (Value.int .i64)) rfl HO1.out _ (some ⟨w7.heap.size, 0, none⟩) 1 1 [.int .i64 x7] rfl HRD.out NV.out N1.out N2.out N3.out ?_; intro v3 w3 hown3 hgrow3 hblk3; have HPP := Lib.hid (And.intro hown3 hgrow3); clear hown3 hgrow3 hblk3)
              go_roundw
              case rel =>
                refine ⟨i + 1, cs.set j x7, ns ++ [x7], D.2.1, D.2.2, Hi.out, by go_num, Lib.hid ⟨?_, ?_, ?_, ?_⟩, HAS, Lib.hid ⟨?_, Below.grown hB2.out HPP.out.2 N3.out (fun b e => (HO1.out.lt b e).1)⟩⟩
                · rw [HP3.out, HRV.out]; rfl
                · rw [sa_snoc _ _ _ HJB.out HP.out.2.2.1, ← HP.out.2.1]
                · rw [List.length_append, HP.out.2.2.1]; rfl
                · exact Nat.le_trans HDL.out.2 HP.out.2.2.2
                · rw [List.length_append, List.map_append]; exact HPP.out.1
              case measure => have := Hi.out; simp [intOf]; omega
        · obtain rfl : i = LL.length := by omega
          have hwl : WT.size = LL.length := HWT.out.1
          have HP3 : Hid (lp s = fin_ (s.size : Int) (.go cs r m)) := Lib.hid (by rw [HP.out.1, List.drop_length]; rfl)
          have htk : LL.take LL.length = LL := List.take_length
          rw [htk] at HP
          clear hi hlt htk
          rcases m with _ | _
          rotate_left
          · have hat := ahead_at HA.out
            obtain ⟨AT, hAT⟩ : ∃ AT : Int, AT = (s.size : Int) - (r.length : Int) := ⟨_, rfl⟩
            have hatc : ((s.size - r.length : Nat) : Int) = AT := by have := HP.out.2.2.2; omega
            have HL := Lib.hid (show lp s = .er 12 AT by rw [hAT]; exact HP3.out)
            obtain ⟨hat1, hat2⟩ := hat
            rw [← hwl] at hat1 hat2
            have hc0 := HAC.out.2 _ _ (wv_get WL (WT.size + 1) _ hat2).1
            have hc1 := HAC.out.2 _ _ (wv_get WL (WT.size + 1) _ hat2).2
            have hc1' : w2.cell? (ad.add ((WT.size + 1) * 2 + 1)) = some (.int .i64 AT) := by rw [← hatc]; exact hc1
            have hbl : (ad.add ((WT.size + 1) * 2)).block < w2.heap.size := by rw [block_of_add]; exact HAC.out.1
            have d0 := (HM.out.2.cell (p := ad.add ((WT.size + 1) * 2)) hbl).trans hc0
            have d1 : wr.cell? ⟨(ad.add ((WT.size + 1) * 2)).block, (ad.add ((WT.size + 1) * 2)).off + 1, none⟩ = some (.int .i64 AT) := by
              rw [← addp _ 1 (by decide) (World.cell?_spot d0)]
              exact (HM.out.2.cell (p := (ad.add ((WT.size + 1) * 2)).add 1) (by rw [block_of_add]; exact hbl)).trans (by rw [add_of_add]; exact hc1')
            have HAD : Hid ((ad.add ((WT.size + 1) * 2)).block ≠ w.heap.size ∧ (ad.add ((WT.size + 1) * 2)).block < wr.heap.size) := Lib.hid ⟨by rw [block_of_add]; exact Nat.ne_of_gt HADB.out, by have := HM.out.2.size; omega⟩
            have q3 : (WT.size : Int) + 1 < (WL.length : Int) := by omega
            have q4 : ((LL.length : Int) < (WT.size : Int)) = False := eq_false (by omega)
            have q5 : decide ((LL.length : Int) < (WT.size : Int)) = false := decide_eq_false (by omega)
            have w0 : (0 : Int) ≤ (WT.size : Int) := by omega
            have w1 : (0 : Int) ≤ (WT.size : Int) + 1 := by omega
            have hwr : IntKind.i64.wrap ((WT.size : Int) + 1) = (WT.size : Int) + 1 := IntWalk.i64_in _ (by omega)
            rw [← hwl] at *
            clear hat1 hat2 hc0 hc1 hc1' hbl hAT hatc
            have gz1 : Below wr.heap.size wr wr.drew := (Below.refl _ _).drew
            have hd : (Bl (w.heap.size + 1) [.int .i64 0, .int .i64 0, .int .i64 0, .int .i64 0, .int .i64 0, .int .i64 0, .int .i64 0, .int .i64 0, .int .i64 0] wr.drew ∧ (wr.drew.cell? ⟨(ad.add ((WT.size + 1) * 2)).block, (ad.add ((WT.size + 1) * 2)).off + 1, none⟩ = some (.int .i64 AT)) ∧ Bl w.heap.size [.int .i64 0, .int .i64 0, .int .i64 0, .int .i64 0, .int .i64 0, .int .i64 0, .int .i64 0, .int .i64 0, .int .i64 0] wr.drew ∧ Below w.heap.size w wr.drew ∧ wr.heap.size ≤ wr.drew.heap.size ∧ (∀ k, k ≠ w.heap.size → k < wr.heap.size → wr.drew.heap[k]? = wr.heap[k]?)) := ⟨HY.out.2.1.below gz1, d1, HY.out.1.below gz1, HY.out.2.2.drew, Nat.le_refl _, fun _ _ _ => rfl⟩
            clear gz1
            go_wp2_with fail
            refine wp_region_held_drew (S := fun w' => Bl (w.heap.size + 1) [.int .i64 0, .int .i64 0, .int .i64 0, .int .i64 0, .int .i64 0, .int .i64 0, .int .i64 0, .int .i64 0, .int .i64 0] w' ∧ (w'.cell? ⟨(ad.add ((WT.size + 1) * 2)).block, (ad.add ((WT.size + 1) * 2)).off + 1, none⟩ = some (.int .i64 AT)) ∧ Bl w.heap.size [.int .i64 0, .int .i64 0, .int .i64 0, .int .i64 0, .int .i64 0, .int .i64 0, .int .i64 0, .int .i64 0, .int .i64 0] w' ∧ Below w.heap.size w w' ∧ wr.heap.size ≤ w'.heap.size ∧ (∀ k, k ≠ w.heap.size → k < wr.heap.size → w'.heap[k]? = wr.heap[k]?)) (by kernel_rfl) hd (fun hHeld => ?_)
            refine wpAnyH_take (i := 0) (oi := { dst := some 114, op := Op.load 31 (Operand.tmp 5), type := 31, pos := "ref.go:112", after := #[], guard := none }) (v := .agg (List.toArray [.int .i64 0, .int .i64 0, .int .i64 0, .int .i64 0, .int .i64 0, .int .i64 0, .int .i64 0, .int .i64 0, .int .i64 0])) rfl (by as_aux_lemma => kernel_rfl) (by as_aux_lemma => kernel_rfl) (by as_aux_lemma => kernel_rfl) (fun _ _ _ h => h) (Or.inl ⟨by rfl, ?_⟩) (by assumption) ?_
            · intro wq hSw
              obtain ⟨s1, s2, s3, s4, s5, s6⟩ := hSw
              have x0 := s1.cell 0 _ rfl
              have x1 := s1.cell 1 _ rfl
              have x2 := s1.cell 2 _ rfl
              have x3 := s1.cell 3 _ rfl
              have x4 := s1.cell 4 _ rfl
              have x5 := s1.cell 5 _ rfl
              have x6 := s1.cell 6 _ rfl
              have x7 := s1.cell 7 _ rfl
              have x8 := s1.cell 8 _ rfl
              go_simp
              try with_reducible rfl
            simp only [Act.put, List.setIfInBounds_toArray, List.set_cons_zero, List.set_cons_succ]
            refine wpAnyH_take (i := 1) (oi := { dst := some 115, op := Op.move (Operand.tmp 7), type := 65, pos := "ref.go:112", after := #[{ on := 9, ground := Ground.gcOnly Departure.lateStores }], guard := none }) (v := .slice (some ad) WL.length c2) rfl (by as_aux_lemma => kernel_rfl) (by as_aux_lemma => kernel_rfl) (by as_aux_lemma => kernel_rfl) (fun _ _ _ h => h) (Or.inl ⟨by rfl, ?_⟩) (by assumption) ?_
            · intro wq hSw
              go_simp
              try with_reducible rfl
            simp only [Act.put, List.setIfInBounds_toArray, List.set_cons_zero, List.set_cons_succ]
            refine wpAnyH_take (i := 2) (oi := { dst := some 116, op := Op.move (Operand.tmp 9), type := 9, pos := "ref.go:112", after := #[], guard := none }) (v := .string WT) rfl (by as_aux_lemma => kernel_rfl) (by as_aux_lemma => kernel_rfl) (by as_aux_lemma => kernel_rfl) (fun _ _ _ h => h) (Or.inl ⟨by rfl, ?_⟩) (by assumption) ?_
            · intro wq hSw
              go_simp
              try with_reducible rfl
            simp only [Act.put, List.setIfInBounds_toArray, List.set_cons_zero, List.set_cons_succ]
            refine wpAnyH_take (i := 3) (oi := { dst := some 117, op := Op.call { callee := Callee.builtin Builtin.len, args := #[Operand.tmp 116], argTypes := #[9] }, type := 3, pos := "ref.go:112", after := #[{ on := 2, ground := Ground.data }], guard := none }) (v := .int .i64 (WT.size : Int)) rfl (by as_aux_lemma => kernel_rfl) (by as_aux_lemma => kernel_rfl) (by as_aux_lemma => kernel_rfl) (fun _ _ _ h => h) (Or.inl ⟨by rfl, ?_⟩) (by assumption) ?_
            · intro wq hSw
              go_simp
              try with_reducible rfl
            simp only [Act.put, List.setIfInBounds_toArray, List.set_cons_zero, List.set_cons_succ]
            refine wpAnyH_take (i := 4) (oi := { dst := some 118, op := Op.binOp BinOp.add 3 (Operand.tmp 117) (Operand.const (Value.int IntKind.i64 1)) 3, type := 3, pos := "ref.go:112", after := #[{ on := 3, ground := Ground.data }, { on := 9, ground := Ground.gcOnly Departure.lateStores }], guard := none }) (v := .int .i64 ((WT.size : Int) + 1)) rfl (by as_aux_lemma => kernel_rfl) (by as_aux_lemma => kernel_rfl) (by as_aux_lemma => kernel_rfl) (fun _ _ _ h => h) (Or.inl ⟨by rfl, ?_⟩) (by assumption) ?_
            · intro wq hSw
              go_simp
              try with_reducible rfl
            simp only [Act.put, List.setIfInBounds_toArray, List.set_cons_zero, List.set_cons_succ]
            refine wpAnyH_take (i := 5) (oi := { dst := some 119, op := Op.indexAddr 65 (Operand.tmp 115) (Operand.tmp 118), type := 0, pos := "ref.go:112", after := #[{ on := 1, ground := Ground.data }, { on := 4, ground := Ground.data }, { on := 9, ground := Ground.gcOnly Departure.lateStores }], guard := none }) (v := ?_) rfl (by as_aux_lemma => kernel_rfl) (by as_aux_lemma => kernel_rfl) (by as_aux_lemma => kernel_rfl) (fun _ _ _ h => h) (Or.inl ⟨by rfl, ?_⟩) (by assumption) ?_
            rotate_left
            · intro wq hSw
              go_simp
              try with_reducible rfl
            simp only [Act.put, List.setIfInBounds_toArray, List.set_cons_zero, List.set_cons_succ]
            refine wpAnyH_take (i := 6) (oi := { dst := some 120, op := Op.fieldAddr 70 (Operand.tmp 119) 1, type := 0, pos := "ref.go:112", after := #[{ on := 5, ground := Ground.data }, { on := 9, ground := Ground.gcOnly Departure.lateStores }], guard := none }) (v := ?_) rfl (by as_aux_lemma => kernel_rfl) (by as_aux_lemma => kernel_rfl) (by as_aux_lemma => kernel_rfl) (fun _ _ _ h => h) (Or.inl ⟨by rfl, ?_⟩) (by assumption) ?_
            rotate_left
            · intro wq hSw
              go_simp
              try with_reducible rfl
            simp only [Act.put, List.setIfInBounds_toArray, List.set_cons_zero, List.set_cons_succ]
            refine wpAnyH_take (i := 7) (oi := { dst := some 121, op := Op.load 3 (Operand.tmp 120), type := 3, pos := "ref.go:112", after := #[{ on := 6, ground := Ground.data }, { on := 9, ground := Ground.gcOnly Departure.lateStores }], guard := none }) (v := .int .i64 AT) rfl (by as_aux_lemma => kernel_rfl) (by as_aux_lemma => kernel_rfl) (by as_aux_lemma => kernel_rfl) (fun _ _ _ h => h) (Or.inl ⟨by rfl, ?_⟩) (by assumption) ?_
            · intro wq hSw
              obtain ⟨s1, s2, s3, s4, s5, s6⟩ := hSw
              go_simp
              try with_reducible rfl
            simp only [Act.put, List.setIfInBounds_toArray, List.set_cons_zero, List.set_cons_succ]
            refine wpAnyH_ready (rs := [8]) (by as_aux_lemma => kernel_rfl) (by simp) ?_
            refine AllReadyH.cons (o := { dst := none, op := Op.store 31 (Operand.tmp 2) (Operand.tmp 114), type := 0, pos := "ref.go:112", after := #[{ on := 0, ground := Ground.data }, { on := 0, ground := Ground.phase }, { on := 1, ground := Ground.textOnly Departure.lateStores }, { on := 2, ground := Ground.textOnly Departure.lateStores }, { on := 3, ground := Ground.textOnly Departure.lateStoresUnsure }, { on := 4, ground := Ground.textOnly Departure.lateStores }, { on := 5, ground := Ground.textOnly Departure.lateStores }, { on := 6, ground := Ground.textOnly Departure.lateStores }, { on := 7, ground := Ground.textOnly Departure.lateStores }], guard := none }) rfl (fun K2 hK => ?_) AllReadyH.nil
            refine wp_store_bl 31 (.tmp 2) (.tmp 114) rfl w.heap.size [.int .i64 0, .int .i64 0, .int .i64 0, .int .i64 0, .int .i64 0, .int .i64 0, .int .i64 0, .int .i64 0, .int .i64 0] [.int .i64 0, .int .i64 0, .int .i64 0, .int .i64 0, .int .i64 0, .int .i64 0, .int .i64 0, .int .i64 0, .int .i64 0] rfl rfl hd.2.2.1 rfl (by kernel_rfl) rfl (fun w8 hb8 hk8 hs8 hbel8 => ?_)
            have hne1 : w.heap.size + 1 ≠ w.heap.size := by omega
            have hne3 := HAD.out.1
            have hlt3 := HAD.out.2
            have hc8 : w8.cell? ⟨(ad.add ((WT.size + 1) * 2)).block, (ad.add ((WT.size + 1) * 2)).off + 1, none⟩ = some (.int .i64 AT) := by
              rw [← d1]
              exact World.cell?_of_block (w := wr) (hk8 _ hne3 hlt3)
            have hd8 : (Bl (w.heap.size + 1) [.int .i64 0, .int .i64 0, .int .i64 0, .int .i64 0, .int .i64 0, .int .i64 0, .int .i64 0, .int .i64 0, .int .i64 0] w8 ∧ (w8.cell? ⟨(ad.add ((WT.size + 1) * 2)).block, (ad.add ((WT.size + 1) * 2)).off + 1, none⟩ = some (.int .i64 AT)) ∧ Bl w.heap.size [.int .i64 0, .int .i64 0, .int .i64 0, .int .i64 0, .int .i64 0, .int .i64 0, .int .i64 0, .int .i64 0, .int .i64 0] w8 ∧ Below w.heap.size w w8 ∧ wr.heap.size ≤ w8.heap.size ∧ (∀ k, k ≠ w.heap.size → k < wr.heap.size → w8.heap[k]? = wr.heap[k]?)) := ⟨hd.1.same (hk8 _ hne1 hd.1.lt), hc8, hb8, hbel8 _ _ (Nat.le_refl _) hd.2.2.2.1, by rw [hs8]; exact Nat.le_refl _, fun k h1 h2 => hk8 k h1 h2⟩
            refine hK.out _ _ hd8 (fun hHeld => ?_)
            clear hK K2
            try simp only [Act.put, List.setIfInBounds_toArray, List.set_cons_zero, List.set_cons_succ]
            refine wpAnyH_take (i := 9) (oi := { dst := some 3, op := Op.assign (Operand.const (Value.int IntKind.i64 12)), type := 3, pos := "ref.go:112", after := #[{ on := 8, ground := Ground.chain }, { on := 0, ground := Ground.phase }, { on := 1, ground := Ground.textOnly Departure.lateStores }, { on := 2, ground := Ground.textOnly Departure.lateStores }, { on := 3, ground := Ground.textOnly Departure.lateStoresUnsure }, { on := 4, ground := Ground.textOnly Departure.lateStores }, { on := 5, ground := Ground.textOnly Departure.lateStores }, { on := 6, ground := Ground.textOnly Departure.lateStores }, { on := 7, ground := Ground.textOnly Departure.lateStores }, { on := 8, ground := Ground.phase }], guard := none }) (v := .int .i64 12) rfl (by as_aux_lemma => kernel_rfl) (by as_aux_lemma => kernel_rfl) (by as_aux_lemma => kernel_rfl) (fun _ _ _ h => h) (Or.inl ⟨by rfl, ?_⟩) (by assumption) ?_
            · intro wq hSw
              go_simp
              try with_reducible rfl
            simp only [Act.put, List.setIfInBounds_toArray, List.set_cons_zero, List.set_cons_succ]
            refine wpAnyH_take (i := 10) (oi := { dst := some 4, op := Op.assign (Operand.tmp 121), type := 3, pos := "ref.go:112", after := #[{ on := 7, ground := Ground.data }, { on := 9, ground := Ground.chain }, { on := 0, ground := Ground.phase }, { on := 1, ground := Ground.phase }, { on := 2, ground := Ground.phase }, { on := 3, ground := Ground.phase }, { on := 4, ground := Ground.phase }, { on := 5, ground := Ground.phase }, { on := 6, ground := Ground.phase }, { on := 7, ground := Ground.phase }, { on := 8, ground := Ground.phase }, { on := 9, ground := Ground.phase }], guard := none }) (v := .int .i64 AT) rfl (by as_aux_lemma => kernel_rfl) (by as_aux_lemma => kernel_rfl) (by as_aux_lemma => kernel_rfl) (fun _ _ _ h => h) (Or.inl ⟨by rfl, ?_⟩) (by assumption) ?_
            · intro wq hSw
              go_simp
              try with_reducible rfl
            simp only [Act.put, List.setIfInBounds_toArray, List.set_cons_zero, List.set_cons_succ]
            refine wpAnyH_done (by as_aux_lemma => kernel_rfl) ?_ _
            go_wp2_with fail
            refine bodyPost_ret (results_three (ty := 31) rfl _ _ w.heap.size [.int .i64 0, .int .i64 0, .int .i64 0, .int .i64 0, .int .i64 0, .int .i64 0, .int .i64 0, .int .i64 0, .int .i64 0] _ _ _ rfl rfl rfl hd8.2.2.1 Tryd.underlying31 rfl (by kernel_rfl)) rfl ?_
            rw [HL.out]
            exact ⟨rfl, hd8.2.2.2.1⟩
          · have hal := ahead_no HA.out
            rw [← hwl] at hal
            have HWL := Lib.hid (fun (k : Int) (h : LL = tg k) => (show WT.size = (tg k).length by rw [hwl, h]))
            have q5 : decide ((LL.length : Int) < (WT.size : Int)) = false := decide_eq_false (by omega)
            have q6 : decide ((WT.size : Int) + 1 < (WL.length : Int)) = false := decide_eq_false (by omega)
            rw [← hwl] at *
            clear hal m0 m1 m2 m3 m4 m5 m6 m7 m8
            rcases HKD.out with h | h | h | h <;> subst h
            · skip
              have hLL : LL = tg 1 := HLL.out
              have hln : ns.length = 8 := HP.out.2.2.1.trans (HWL.out _ hLL)
              subst hLL
              obtain ⟨a0, a1, a2, a3, a4, a5, a6, a7, hns⟩ : ∃ a0 a1 a2 a3 a4 a5 a6 a7, ns = [a0, a1, a2, a3, a4, a5, a6, a7] := by
                match ns, hln with
                | [a0, a1, a2, a3, a4, a5, a6, a7], _ => exact ⟨a0, a1, a2, a3, a4, a5, a6, a7, rfl⟩
              subst hns
              have hcs : cs = [1, a0, a1, a3, a2, a5, a6, a7, a4] := HP.out.2.1
              subst hcs
              have HL : Hid (lp s = .ok [1, a0, a1, a3, a2, a5, a6, a7, a4]) := Lib.hid HP3.out
              have gA : Below wr.heap.size wr (wr.alloc (.cells (List.toArray [.int .i64 1, .int .i64 0, .int .i64 0, .int .i64 0, .int .i64 0, .int .i64 0, .int .i64 0, .int .i64 0, .int .i64 0]) 31)) := by go_grown
              have bA := Bl.new wr [.int .i64 1, .int .i64 0, .int .i64 0, .int .i64 0, .int .i64 0, .int .i64 0, .int .i64 0, .int .i64 0, .int .i64 0] 31
              obtain ⟨g, cap4, hv5, hg4, hg5⟩ := HM.out.1.form (by show 0 < 8; omega)
              injection hv5 with hv6 hv7 hv8
              subst hv6
              have hcl := HM.out.1.cells (g := g) rfl
              have hm0 : wr.cell? ⟨g, 0, none⟩ = some (.int .i64 a0) := hcl 0 _ rfl
              have hm1 : wr.cell? ⟨g, 1, none⟩ = some (.int .i64 a1) := hcl 1 _ rfl
              have hm2 : wr.cell? ⟨g, 2, none⟩ = some (.int .i64 a2) := hcl 2 _ rfl
              have hm3 : wr.cell? ⟨g, 3, none⟩ = some (.int .i64 a3) := hcl 3 _ rfl
              have hm4 : wr.cell? ⟨g, 4, none⟩ = some (.int .i64 a4) := hcl 4 _ rfl
              have hm5 : wr.cell? ⟨g, 5, none⟩ = some (.int .i64 a5) := hcl 5 _ rfl
              have hm6 : wr.cell? ⟨g, 6, none⟩ = some (.int .i64 a6) := hcl 6 _ rfl
              have hm7 : wr.cell? ⟨g, 7, none⟩ = some (.int .i64 a7) := hcl 7 _ rfl
              have hn0 := (gA.cell (p := ⟨g, 0, none⟩) hg5).trans hm0
              have hn1 := (gA.cell (p := ⟨g, 1, none⟩) hg5).trans hm1
              have hn2 := (gA.cell (p := ⟨g, 2, none⟩) hg5).trans hm2
              have hn3 := (gA.cell (p := ⟨g, 3, none⟩) hg5).trans hm3
              have hn4 := (gA.cell (p := ⟨g, 4, none⟩) hg5).trans hm4
              have hn5 := (gA.cell (p := ⟨g, 5, none⟩) hg5).trans hm5
              have hn6 := (gA.cell (p := ⟨g, 6, none⟩) hg5).trans hm6
              have hn7 := (gA.cell (p := ⟨g, 7, none⟩) hg5).trans hm7
              obtain ⟨AB, hAB⟩ : ∃ AB, AB = wr.heap.size := ⟨_, rfl⟩
              have HLA : Hid (w.heap.size < AB ∧ g ≠ AB) := Lib.hid (by rw [hAB]; exact ⟨HY.out.1.lt, by omega⟩)
              have HW0 := Lib.hid (And.intro (Below.step HY.out.2.2 gA) (HY.out.1.below gA))
              rw [← hAB] at bA
              have HBA := Lib.hid bA
              obtain ⟨W0, hW0⟩ : ∃ W0, W0 = wr.alloc (.cells (List.toArray [.int .i64 1, .int .i64 0, .int .i64 0, .int .i64 0, .int .i64 0, .int .i64 0, .int .i64 0, .int .i64 0, .int .i64 0]) 31) := ⟨_, rfl⟩
              rw [← hW0] at HW0 HBA hn0 hn1 hn2 hn3 hn4 hn5 hn6 hn7
              have HW0E := Lib.hid hW0
              have HABE := Lib.hid hAB
              clear gA bA hW0 hAB hv7 hv8 hg4 hcl hm0 hm1 hm2 hm3 hm4 hm5 hm6 hm7
              go_wp2_with fail
              rw [← HW0E.out, ← HABE.out]
              have gz1 : Below W0.heap.size W0 W0.drew := (Below.refl _ _).drew
              have hd : (Below w.heap.size w W0.drew ∧ Bl w.heap.size [.int .i64 0, .int .i64 0, .int .i64 0, .int .i64 0, .int .i64 0, .int .i64 0, .int .i64 0, .int .i64 0, .int .i64 0] W0.drew ∧ (W0.drew.cell? ⟨g, 0, none⟩ = some (.int .i64 a0)) ∧ (W0.drew.cell? ⟨g, 1, none⟩ = some (.int .i64 a1)) ∧ (W0.drew.cell? ⟨g, 2, none⟩ = some (.int .i64 a2)) ∧ (W0.drew.cell? ⟨g, 3, none⟩ = some (.int .i64 a3)) ∧ (W0.drew.cell? ⟨g, 4, none⟩ = some (.int .i64 a4)) ∧ (W0.drew.cell? ⟨g, 5, none⟩ = some (.int .i64 a5)) ∧ (W0.drew.cell? ⟨g, 6, none⟩ = some (.int .i64 a6)) ∧ (W0.drew.cell? ⟨g, 7, none⟩ = some (.int .i64 a7))) := ⟨HW0.out.1.drew, HW0.out.2, hn0, hn1, hn2, hn3, hn4, hn5, hn6, hn7⟩
              have hbA : Bl AB [.int .i64 1, .int .i64 0, .int .i64 0, .int .i64 0, .int .i64 0, .int .i64 0, .int .i64 0, .int .i64 0, .int .i64 0] W0.drew := HBA.out
              clear gz1
              go_wp2_with fail
              refine wp_region_held_drew (S := fun w' => Below w.heap.size w w' ∧ Bl w.heap.size [.int .i64 0, .int .i64 0, .int .i64 0, .int .i64 0, .int .i64 0, .int .i64 0, .int .i64 0, .int .i64 0, .int .i64 0] w' ∧ (w'.cell? ⟨g, 0, none⟩ = some (.int .i64 a0)) ∧ (w'.cell? ⟨g, 1, none⟩ = some (.int .i64 a1)) ∧ (w'.cell? ⟨g, 2, none⟩ = some (.int .i64 a2)) ∧ (w'.cell? ⟨g, 3, none⟩ = some (.int .i64 a3)) ∧ (w'.cell? ⟨g, 4, none⟩ = some (.int .i64 a4)) ∧ (w'.cell? ⟨g, 5, none⟩ = some (.int .i64 a5)) ∧ (w'.cell? ⟨g, 6, none⟩ = some (.int .i64 a6)) ∧ (w'.cell? ⟨g, 7, none⟩ = some (.int .i64 a7))) (by kernel_rfl) hd (fun hHeld => ?_)
              generalize W0.drew = V0 at hd hbA ⊢
              refine wpAnyH_take (i := 0) (oi := { dst := some 127, op := Op.move (Operand.tmp 10), type := 71, pos := "ref.go:117", after := #[], guard := none }) (v := .slice (some ⟨g, 0, none⟩) 8 c4) rfl (by as_aux_lemma => kernel_rfl) (by as_aux_lemma => kernel_rfl) (by as_aux_lemma => kernel_rfl) (fun _ _ _ h => h) (Or.inl ⟨by rfl, ?_⟩) (by assumption) ?_
              · intro wq hSw
                go_simp
                try with_reducible rfl
              simp only [Act.put, List.setIfInBounds_toArray, List.set_cons_zero, List.set_cons_succ]
              refine wpAnyH_take (i := 1) (oi := { dst := some 128, op := Op.indexAddr 71 (Operand.tmp 127) (Operand.const (Value.int IntKind.i64 0)), type := 0, pos := "ref.go:117", after := #[{ on := 0, ground := Ground.data }], guard := none }) (v := .pointer (some ⟨g, 0, none⟩)) rfl (by as_aux_lemma => kernel_rfl) (by as_aux_lemma => kernel_rfl) (by as_aux_lemma => kernel_rfl) (fun _ _ _ h => h) (Or.inl ⟨by rfl, ?_⟩) (by assumption) ?_
              · intro wq hSw
                go_simp
                try with_reducible rfl
              simp only [Act.put, List.setIfInBounds_toArray, List.set_cons_zero, List.set_cons_succ]
              refine wpAnyH_take (i := 2) (oi := { dst := some 129, op := Op.load 3 (Operand.tmp 128), type := 3, pos := "ref.go:117", after := #[{ on := 1, ground := Ground.data }], guard := none }) (v := .int .i64 a0) rfl (by as_aux_lemma => kernel_rfl) (by as_aux_lemma => kernel_rfl) (by as_aux_lemma => kernel_rfl) (fun _ _ _ h => h) (Or.inl ⟨by rfl, ?_⟩) (by assumption) ?_
              · intro wq hSw
                obtain ⟨s1, s2, r0, r1, r2, r3, r4, r5, r6, r7⟩ := hSw
                go_simp
                try with_reducible rfl
              simp only [Act.put, List.setIfInBounds_toArray, List.set_cons_zero, List.set_cons_succ]
              refine wpAnyH_take (i := 3) (oi := { dst := some 130, op := Op.move (Operand.tmp 10), type := 71, pos := "ref.go:117", after := #[{ on := 25, ground := Ground.gcOnly Departure.lateStores }], guard := none }) (v := .slice (some ⟨g, 0, none⟩) 8 c4) rfl (by as_aux_lemma => kernel_rfl) (by as_aux_lemma => kernel_rfl) (by as_aux_lemma => kernel_rfl) (fun _ _ _ h => h) (Or.inl ⟨by rfl, ?_⟩) (by assumption) ?_
              · intro wq hSw
                go_simp
                try with_reducible rfl
              simp only [Act.put, List.setIfInBounds_toArray, List.set_cons_zero, List.set_cons_succ]
              refine wpAnyH_take (i := 4) (oi := { dst := some 131, op := Op.indexAddr 71 (Operand.tmp 130) (Operand.const (Value.int IntKind.i64 1)), type := 0, pos := "ref.go:117", after := #[{ on := 3, ground := Ground.data }, { on := 25, ground := Ground.gcOnly Departure.lateStores }], guard := none }) (v := .pointer (some ⟨g, 1, none⟩)) rfl (by as_aux_lemma => kernel_rfl) (by as_aux_lemma => kernel_rfl) (by as_aux_lemma => kernel_rfl) (fun _ _ _ h => h) (Or.inl ⟨by rfl, ?_⟩) (by assumption) ?_
              · intro wq hSw
                go_simp
                try with_reducible rfl
              simp only [Act.put, List.setIfInBounds_toArray, List.set_cons_zero, List.set_cons_succ]
              refine wpAnyH_take (i := 5) (oi := { dst := some 132, op := Op.load 3 (Operand.tmp 131), type := 3, pos := "ref.go:117", after := #[{ on := 4, ground := Ground.data }, { on := 25, ground := Ground.gcOnly Departure.lateStores }], guard := none }) (v := .int .i64 a1) rfl (by as_aux_lemma => kernel_rfl) (by as_aux_lemma => kernel_rfl) (by as_aux_lemma => kernel_rfl) (fun _ _ _ h => h) (Or.inl ⟨by rfl, ?_⟩) (by assumption) ?_
              · intro wq hSw
                obtain ⟨s1, s2, r0, r1, r2, r3, r4, r5, r6, r7⟩ := hSw
                go_simp
                try with_reducible rfl
              simp only [Act.put, List.setIfInBounds_toArray, List.set_cons_zero, List.set_cons_succ]
              refine wpAnyH_take (i := 6) (oi := { dst := some 133, op := Op.move (Operand.tmp 10), type := 71, pos := "ref.go:117", after := #[{ on := 27, ground := Ground.gcOnly Departure.lateStores }], guard := none }) (v := .slice (some ⟨g, 0, none⟩) 8 c4) rfl (by as_aux_lemma => kernel_rfl) (by as_aux_lemma => kernel_rfl) (by as_aux_lemma => kernel_rfl) (fun _ _ _ h => h) (Or.inl ⟨by rfl, ?_⟩) (by assumption) ?_
              · intro wq hSw
                go_simp
                try with_reducible rfl
              simp only [Act.put, List.setIfInBounds_toArray, List.set_cons_zero, List.set_cons_succ]
              refine wpAnyH_take (i := 7) (oi := { dst := some 134, op := Op.indexAddr 71 (Operand.tmp 133) (Operand.const (Value.int IntKind.i64 2)), type := 0, pos := "ref.go:117", after := #[{ on := 6, ground := Ground.data }, { on := 27, ground := Ground.gcOnly Departure.lateStores }], guard := none }) (v := .pointer (some ⟨g, 2, none⟩)) rfl (by as_aux_lemma => kernel_rfl) (by as_aux_lemma => kernel_rfl) (by as_aux_lemma => kernel_rfl) (fun _ _ _ h => h) (Or.inl ⟨by rfl, ?_⟩) (by assumption) ?_
              · intro wq hSw
                go_simp
                try with_reducible rfl
              simp only [Act.put, List.setIfInBounds_toArray, List.set_cons_zero, List.set_cons_succ]
              refine wpAnyH_take (i := 8) (oi := { dst := some 135, op := Op.load 3 (Operand.tmp 134), type := 3, pos := "ref.go:117", after := #[{ on := 7, ground := Ground.data }, { on := 27, ground := Ground.gcOnly Departure.lateStores }], guard := none }) (v := .int .i64 a2) rfl (by as_aux_lemma => kernel_rfl) (by as_aux_lemma => kernel_rfl) (by as_aux_lemma => kernel_rfl) (fun _ _ _ h => h) (Or.inl ⟨by rfl, ?_⟩) (by assumption) ?_
              · intro wq hSw
                obtain ⟨s1, s2, r0, r1, r2, r3, r4, r5, r6, r7⟩ := hSw
                go_simp
                try with_reducible rfl
              simp only [Act.put, List.setIfInBounds_toArray, List.set_cons_zero, List.set_cons_succ]
              refine wpAnyH_take (i := 9) (oi := { dst := some 136, op := Op.move (Operand.tmp 10), type := 71, pos := "ref.go:117", after := #[{ on := 30, ground := Ground.gcOnly Departure.lateStores }], guard := none }) (v := .slice (some ⟨g, 0, none⟩) 8 c4) rfl (by as_aux_lemma => kernel_rfl) (by as_aux_lemma => kernel_rfl) (by as_aux_lemma => kernel_rfl) (fun _ _ _ h => h) (Or.inl ⟨by rfl, ?_⟩) (by assumption) ?_
              · intro wq hSw
                go_simp
                try with_reducible rfl
              simp only [Act.put, List.setIfInBounds_toArray, List.set_cons_zero, List.set_cons_succ]
              refine wpAnyH_take (i := 10) (oi := { dst := some 137, op := Op.indexAddr 71 (Operand.tmp 136) (Operand.const (Value.int IntKind.i64 3)), type := 0, pos := "ref.go:117", after := #[{ on := 9, ground := Ground.data }, { on := 30, ground := Ground.gcOnly Departure.lateStores }], guard := none }) (v := .pointer (some ⟨g, 3, none⟩)) rfl (by as_aux_lemma => kernel_rfl) (by as_aux_lemma => kernel_rfl) (by as_aux_lemma => kernel_rfl) (fun _ _ _ h => h) (Or.inl ⟨by rfl, ?_⟩) (by assumption) ?_
              · intro wq hSw
                go_simp
                try with_reducible rfl
              simp only [Act.put, List.setIfInBounds_toArray, List.set_cons_zero, List.set_cons_succ]
              refine wpAnyH_take (i := 11) (oi := { dst := some 138, op := Op.load 3 (Operand.tmp 137), type := 3, pos := "ref.go:117", after := #[{ on := 10, ground := Ground.data }, { on := 30, ground := Ground.gcOnly Departure.lateStores }], guard := none }) (v := .int .i64 a3) rfl (by as_aux_lemma => kernel_rfl) (by as_aux_lemma => kernel_rfl) (by as_aux_lemma => kernel_rfl) (fun _ _ _ h => h) (Or.inl ⟨by rfl, ?_⟩) (by assumption) ?_
              · intro wq hSw
                obtain ⟨s1, s2, r0, r1, r2, r3, r4, r5, r6, r7⟩ := hSw
                go_simp
                try with_reducible rfl
              simp only [Act.put, List.setIfInBounds_toArray, List.set_cons_zero, List.set_cons_succ]
              refine wpAnyH_take (i := 12) (oi := { dst := some 139, op := Op.move (Operand.tmp 10), type := 71, pos := "ref.go:117", after := #[{ on := 33, ground := Ground.gcOnly Departure.lateStores }], guard := none }) (v := .slice (some ⟨g, 0, none⟩) 8 c4) rfl (by as_aux_lemma => kernel_rfl) (by as_aux_lemma => kernel_rfl) (by as_aux_lemma => kernel_rfl) (fun _ _ _ h => h) (Or.inl ⟨by rfl, ?_⟩) (by assumption) ?_
              · intro wq hSw
                go_simp
                try with_reducible rfl
              simp only [Act.put, List.setIfInBounds_toArray, List.set_cons_zero, List.set_cons_succ]
              refine wpAnyH_take (i := 13) (oi := { dst := some 140, op := Op.indexAddr 71 (Operand.tmp 139) (Operand.const (Value.int IntKind.i64 4)), type := 0, pos := "ref.go:117", after := #[{ on := 12, ground := Ground.data }, { on := 33, ground := Ground.gcOnly Departure.lateStores }], guard := none }) (v := .pointer (some ⟨g, 4, none⟩)) rfl (by as_aux_lemma => kernel_rfl) (by as_aux_lemma => kernel_rfl) (by as_aux_lemma => kernel_rfl) (fun _ _ _ h => h) (Or.inl ⟨by rfl, ?_⟩) (by assumption) ?_
              · intro wq hSw
                go_simp
                try with_reducible rfl
              simp only [Act.put, List.setIfInBounds_toArray, List.set_cons_zero, List.set_cons_succ]
              refine wpAnyH_take (i := 14) (oi := { dst := some 141, op := Op.load 3 (Operand.tmp 140), type := 3, pos := "ref.go:117", after := #[{ on := 13, ground := Ground.data }, { on := 33, ground := Ground.gcOnly Departure.lateStores }], guard := none }) (v := .int .i64 a4) rfl (by as_aux_lemma => kernel_rfl) (by as_aux_lemma => kernel_rfl) (by as_aux_lemma => kernel_rfl) (fun _ _ _ h => h) (Or.inl ⟨by rfl, ?_⟩) (by assumption) ?_
              · intro wq hSw
                obtain ⟨s1, s2, r0, r1, r2, r3, r4, r5, r6, r7⟩ := hSw
                go_simp
                try with_reducible rfl
              simp only [Act.put, List.setIfInBounds_toArray, List.set_cons_zero, List.set_cons_succ]
              refine wpAnyH_take (i := 15) (oi := { dst := some 142, op := Op.move (Operand.tmp 10), type := 71, pos := "ref.go:117", after := #[{ on := 35, ground := Ground.gcOnly Departure.lateStores }], guard := none }) (v := .slice (some ⟨g, 0, none⟩) 8 c4) rfl (by as_aux_lemma => kernel_rfl) (by as_aux_lemma => kernel_rfl) (by as_aux_lemma => kernel_rfl) (fun _ _ _ h => h) (Or.inl ⟨by rfl, ?_⟩) (by assumption) ?_
              · intro wq hSw
                go_simp
                try with_reducible rfl
              simp only [Act.put, List.setIfInBounds_toArray, List.set_cons_zero, List.set_cons_succ]
              refine wpAnyH_take (i := 16) (oi := { dst := some 143, op := Op.indexAddr 71 (Operand.tmp 142) (Operand.const (Value.int IntKind.i64 5)), type := 0, pos := "ref.go:117", after := #[{ on := 15, ground := Ground.data }, { on := 35, ground := Ground.gcOnly Departure.lateStores }], guard := none }) (v := .pointer (some ⟨g, 5, none⟩)) rfl (by as_aux_lemma => kernel_rfl) (by as_aux_lemma => kernel_rfl) (by as_aux_lemma => kernel_rfl) (fun _ _ _ h => h) (Or.inl ⟨by rfl, ?_⟩) (by assumption) ?_
              · intro wq hSw
                go_simp
                try with_reducible rfl
              simp only [Act.put, List.setIfInBounds_toArray, List.set_cons_zero, List.set_cons_succ]
              refine wpAnyH_take (i := 17) (oi := { dst := some 144, op := Op.load 3 (Operand.tmp 143), type := 3, pos := "ref.go:117", after := #[{ on := 16, ground := Ground.data }, { on := 35, ground := Ground.gcOnly Departure.lateStores }], guard := none }) (v := .int .i64 a5) rfl (by as_aux_lemma => kernel_rfl) (by as_aux_lemma => kernel_rfl) (by as_aux_lemma => kernel_rfl) (fun _ _ _ h => h) (Or.inl ⟨by rfl, ?_⟩) (by assumption) ?_
              · intro wq hSw
                obtain ⟨s1, s2, r0, r1, r2, r3, r4, r5, r6, r7⟩ := hSw
                go_simp
                try with_reducible rfl
              simp only [Act.put, List.setIfInBounds_toArray, List.set_cons_zero, List.set_cons_succ]
              refine wpAnyH_take (i := 18) (oi := { dst := some 145, op := Op.move (Operand.tmp 10), type := 71, pos := "ref.go:117", after := #[{ on := 38, ground := Ground.gcOnly Departure.lateStores }], guard := none }) (v := .slice (some ⟨g, 0, none⟩) 8 c4) rfl (by as_aux_lemma => kernel_rfl) (by as_aux_lemma => kernel_rfl) (by as_aux_lemma => kernel_rfl) (fun _ _ _ h => h) (Or.inl ⟨by rfl, ?_⟩) (by assumption) ?_
              · intro wq hSw
                go_simp
                try with_reducible rfl
              simp only [Act.put, List.setIfInBounds_toArray, List.set_cons_zero, List.set_cons_succ]
              refine wpAnyH_take (i := 19) (oi := { dst := some 146, op := Op.indexAddr 71 (Operand.tmp 145) (Operand.const (Value.int IntKind.i64 6)), type := 0, pos := "ref.go:117", after := #[{ on := 18, ground := Ground.data }, { on := 38, ground := Ground.gcOnly Departure.lateStores }], guard := none }) (v := .pointer (some ⟨g, 6, none⟩)) rfl (by as_aux_lemma => kernel_rfl) (by as_aux_lemma => kernel_rfl) (by as_aux_lemma => kernel_rfl) (fun _ _ _ h => h) (Or.inl ⟨by rfl, ?_⟩) (by assumption) ?_
              · intro wq hSw
                go_simp
                try with_reducible rfl
              simp only [Act.put, List.setIfInBounds_toArray, List.set_cons_zero, List.set_cons_succ]
              refine wpAnyH_take (i := 20) (oi := { dst := some 147, op := Op.load 3 (Operand.tmp 146), type := 3, pos := "ref.go:117", after := #[{ on := 19, ground := Ground.data }, { on := 38, ground := Ground.gcOnly Departure.lateStores }], guard := none }) (v := .int .i64 a6) rfl (by as_aux_lemma => kernel_rfl) (by as_aux_lemma => kernel_rfl) (by as_aux_lemma => kernel_rfl) (fun _ _ _ h => h) (Or.inl ⟨by rfl, ?_⟩) (by assumption) ?_
              · intro wq hSw
                obtain ⟨s1, s2, r0, r1, r2, r3, r4, r5, r6, r7⟩ := hSw
                go_simp
                try with_reducible rfl
              simp only [Act.put, List.setIfInBounds_toArray, List.set_cons_zero, List.set_cons_succ]
              refine wpAnyH_take (i := 21) (oi := { dst := some 148, op := Op.move (Operand.tmp 10), type := 71, pos := "ref.go:117", after := #[{ on := 41, ground := Ground.gcOnly Departure.lateStores }], guard := none }) (v := .slice (some ⟨g, 0, none⟩) 8 c4) rfl (by as_aux_lemma => kernel_rfl) (by as_aux_lemma => kernel_rfl) (by as_aux_lemma => kernel_rfl) (fun _ _ _ h => h) (Or.inl ⟨by rfl, ?_⟩) (by assumption) ?_
              · intro wq hSw
                go_simp
                try with_reducible rfl
              simp only [Act.put, List.setIfInBounds_toArray, List.set_cons_zero, List.set_cons_succ]
              refine wpAnyH_take (i := 22) (oi := { dst := some 149, op := Op.indexAddr 71 (Operand.tmp 148) (Operand.const (Value.int IntKind.i64 7)), type := 0, pos := "ref.go:117", after := #[{ on := 21, ground := Ground.data }, { on := 41, ground := Ground.gcOnly Departure.lateStores }], guard := none }) (v := .pointer (some ⟨g, 7, none⟩)) rfl (by as_aux_lemma => kernel_rfl) (by as_aux_lemma => kernel_rfl) (by as_aux_lemma => kernel_rfl) (fun _ _ _ h => h) (Or.inl ⟨by rfl, ?_⟩) (by assumption) ?_
              · intro wq hSw
                go_simp
                try with_reducible rfl
              simp only [Act.put, List.setIfInBounds_toArray, List.set_cons_zero, List.set_cons_succ]
              refine wpAnyH_take (i := 23) (oi := { dst := some 150, op := Op.load 3 (Operand.tmp 149), type := 3, pos := "ref.go:117", after := #[{ on := 22, ground := Ground.data }, { on := 41, ground := Ground.gcOnly Departure.lateStores }], guard := none }) (v := .int .i64 a7) rfl (by as_aux_lemma => kernel_rfl) (by as_aux_lemma => kernel_rfl) (by as_aux_lemma => kernel_rfl) (fun _ _ _ h => h) (Or.inl ⟨by rfl, ?_⟩) (by assumption) ?_
              · intro wq hSw
                obtain ⟨s1, s2, r0, r1, r2, r3, r4, r5, r6, r7⟩ := hSw
                go_simp
                try with_reducible rfl
              simp only [Act.put, List.setIfInBounds_toArray, List.set_cons_zero, List.set_cons_succ]
              refine wpAnyH_take (i := 24) (oi := { dst := some 151, op := Op.fieldAddr 31 (Operand.tmp 16) 1, type := 0, pos := "ref.go:117", after := #[{ on := 0, ground := Ground.phase }, { on := 1, ground := Ground.phase }, { on := 2, ground := Ground.phase }, { on := 3, ground := Ground.textOnly Departure.lateStores }, { on := 4, ground := Ground.textOnly Departure.lateStores }, { on := 5, ground := Ground.textOnly Departure.lateStores }, { on := 6, ground := Ground.textOnly Departure.lateStores }, { on := 7, ground := Ground.textOnly Departure.lateStores }, { on := 8, ground := Ground.textOnly Departure.lateStores }, { on := 9, ground := Ground.textOnly Departure.lateStores }, { on := 10, ground := Ground.textOnly Departure.lateStores }, { on := 11, ground := Ground.textOnly Departure.lateStores }, { on := 12, ground := Ground.textOnly Departure.lateStores }, { on := 13, ground := Ground.textOnly Departure.lateStores }, { on := 14, ground := Ground.textOnly Departure.lateStores }, { on := 15, ground := Ground.textOnly Departure.lateStores }, { on := 16, ground := Ground.textOnly Departure.lateStores }, { on := 17, ground := Ground.textOnly Departure.lateStores }, { on := 18, ground := Ground.textOnly Departure.lateStores }, { on := 19, ground := Ground.textOnly Departure.lateStores }, { on := 20, ground := Ground.textOnly Departure.lateStores }, { on := 21, ground := Ground.textOnly Departure.lateStores }, { on := 22, ground := Ground.textOnly Departure.lateStores }, { on := 23, ground := Ground.textOnly Departure.lateStores }], guard := none }) (v := .pointer (some ⟨AB, 1, none⟩)) rfl (by as_aux_lemma => kernel_rfl) (by as_aux_lemma => kernel_rfl) (by as_aux_lemma => kernel_rfl) (fun _ _ _ h => h) (Or.inl ⟨by rfl, ?_⟩) (by assumption) ?_
              · intro wq hSw
                go_simp
                try with_reducible rfl
              simp only [Act.put, List.setIfInBounds_toArray, List.set_cons_zero, List.set_cons_succ]
              refine wpAnyH_ready (rs := [25]) (by as_aux_lemma => kernel_rfl) (by simp) ?_
              refine AllReadyH.cons (o := { dst := none, op := Op.store 3 (Operand.tmp 151) (Operand.tmp 129), type := 0, pos := "ref.go:117", after := #[{ on := 24, ground := Ground.data }, { on := 2, ground := Ground.data }, { on := 0, ground := Ground.phase }, { on := 1, ground := Ground.phase }, { on := 2, ground := Ground.phase }, { on := 3, ground := Ground.textOnly Departure.lateStores }, { on := 4, ground := Ground.textOnly Departure.lateStores }, { on := 5, ground := Ground.textOnly Departure.lateStores }, { on := 6, ground := Ground.textOnly Departure.lateStores }, { on := 7, ground := Ground.textOnly Departure.lateStores }, { on := 8, ground := Ground.textOnly Departure.lateStores }, { on := 9, ground := Ground.textOnly Departure.lateStores }, { on := 10, ground := Ground.textOnly Departure.lateStores }, { on := 11, ground := Ground.textOnly Departure.lateStores }, { on := 12, ground := Ground.textOnly Departure.lateStores }, { on := 13, ground := Ground.textOnly Departure.lateStores }, { on := 14, ground := Ground.textOnly Departure.lateStores }, { on := 15, ground := Ground.textOnly Departure.lateStores }, { on := 16, ground := Ground.textOnly Departure.lateStores }, { on := 17, ground := Ground.textOnly Departure.lateStores }, { on := 18, ground := Ground.textOnly Departure.lateStores }, { on := 19, ground := Ground.textOnly Departure.lateStores }, { on := 20, ground := Ground.textOnly Departure.lateStores }, { on := 21, ground := Ground.textOnly Departure.lateStores }, { on := 22, ground := Ground.textOnly Departure.lateStores }, { on := 23, ground := Ground.textOnly Departure.lateStores }], guard := none }) rfl (fun K2 hK => ?_) AllReadyH.nil
              have yc1 := hbA.cell 1 _ rfl
              have yf1 := hbA.frz 1
              go_simp
              clear yc1 yf1
              obtain ⟨V1, hV1⟩ : ∃ V1, V1 = (V0).setCell ⟨AB, 1, none⟩ (.int .i64 a0) := ⟨_, rfl⟩
              rw [← hV1]
              have hbB : Bl AB [.int .i64 1, .int .i64 a0, .int .i64 0, .int .i64 0, .int .i64 0, .int .i64 0, .int .i64 0, .int .i64 0, .int .i64 0] V1 := by rw [hV1]; exact hbA.set 1 _
              have hd' : (Below w.heap.size w V1 ∧ Bl w.heap.size [.int .i64 0, .int .i64 0, .int .i64 0, .int .i64 0, .int .i64 0, .int .i64 0, .int .i64 0, .int .i64 0, .int .i64 0] V1 ∧ (V1.cell? ⟨g, 0, none⟩ = some (.int .i64 a0)) ∧ (V1.cell? ⟨g, 1, none⟩ = some (.int .i64 a1)) ∧ (V1.cell? ⟨g, 2, none⟩ = some (.int .i64 a2)) ∧ (V1.cell? ⟨g, 3, none⟩ = some (.int .i64 a3)) ∧ (V1.cell? ⟨g, 4, none⟩ = some (.int .i64 a4)) ∧ (V1.cell? ⟨g, 5, none⟩ = some (.int .i64 a5)) ∧ (V1.cell? ⟨g, 6, none⟩ = some (.int .i64 a6)) ∧ (V1.cell? ⟨g, 7, none⟩ = some (.int .i64 a7))) := by
                rw [hV1]
                exact ⟨hd.1.setCell (p := ⟨AB, 1, none⟩) (Nat.le_of_lt HLA.out.1) _, hd.2.1.far (p := ⟨AB, 1, none⟩) (by have := HLA.out.1; show AB ≠ w.heap.size; omega) _, (cell_far HLA.out.2 _ _ _).trans hd.2.2.1, (cell_far HLA.out.2 _ _ _).trans hd.2.2.2.1, (cell_far HLA.out.2 _ _ _).trans hd.2.2.2.2.1, (cell_far HLA.out.2 _ _ _).trans hd.2.2.2.2.2.1, (cell_far HLA.out.2 _ _ _).trans hd.2.2.2.2.2.2.1, (cell_far HLA.out.2 _ _ _).trans hd.2.2.2.2.2.2.2.1, (cell_far HLA.out.2 _ _ _).trans hd.2.2.2.2.2.2.2.2.1, (cell_far HLA.out.2 _ _ _).trans hd.2.2.2.2.2.2.2.2.2⟩
              clear hbA hd hV1
              have hbA := hbB
              have hd := hd'
              clear hbB hd'
              refine hK.out _ _ hd (fun hHeld => ?_)
              clear hK K2
              try simp only [Act.put, List.setIfInBounds_toArray, List.set_cons_zero, List.set_cons_succ]
              refine wpAnyH_take (i := 26) (oi := { dst := some 152, op := Op.fieldAddr 31 (Operand.tmp 16) 2, type := 0, pos := "ref.go:117", after := #[{ on := 0, ground := Ground.phase }, { on := 1, ground := Ground.phase }, { on := 2, ground := Ground.phase }, { on := 3, ground := Ground.phase }, { on := 4, ground := Ground.phase }, { on := 5, ground := Ground.phase }, { on := 6, ground := Ground.textOnly Departure.lateStores }, { on := 7, ground := Ground.textOnly Departure.lateStores }, { on := 8, ground := Ground.textOnly Departure.lateStores }, { on := 9, ground := Ground.textOnly Departure.lateStores }, { on := 10, ground := Ground.textOnly Departure.lateStores }, { on := 11, ground := Ground.textOnly Departure.lateStores }, { on := 12, ground := Ground.textOnly Departure.lateStores }, { on := 13, ground := Ground.textOnly Departure.lateStores }, { on := 14, ground := Ground.textOnly Departure.lateStores }, { on := 15, ground := Ground.textOnly Departure.lateStores }, { on := 16, ground := Ground.textOnly Departure.lateStores }, { on := 17, ground := Ground.textOnly Departure.lateStores }, { on := 18, ground := Ground.textOnly Departure.lateStores }, { on := 19, ground := Ground.textOnly Departure.lateStores }, { on := 20, ground := Ground.textOnly Departure.lateStores }, { on := 21, ground := Ground.textOnly Departure.lateStores }, { on := 22, ground := Ground.textOnly Departure.lateStores }, { on := 23, ground := Ground.textOnly Departure.lateStores }, { on := 24, ground := Ground.phase }, { on := 25, ground := Ground.phase }], guard := none }) (v := .pointer (some ⟨AB, 2, none⟩)) rfl (by as_aux_lemma => kernel_rfl) (by as_aux_lemma => kernel_rfl) (by as_aux_lemma => kernel_rfl) (fun _ _ _ h => h) (Or.inl ⟨by rfl, ?_⟩) (by assumption) ?_
              · intro wq hSw
                go_simp
                try with_reducible rfl
              simp only [Act.put, List.setIfInBounds_toArray, List.set_cons_zero, List.set_cons_succ]
              refine wpAnyH_ready (rs := [27]) (by as_aux_lemma => kernel_rfl) (by simp) ?_
              refine AllReadyH.cons (o := { dst := none, op := Op.store 3 (Operand.tmp 152) (Operand.tmp 132), type := 0, pos := "ref.go:117", after := #[{ on := 26, ground := Ground.data }, { on := 5, ground := Ground.data }, { on := 25, ground := Ground.chain }, { on := 0, ground := Ground.phase }, { on := 1, ground := Ground.phase }, { on := 2, ground := Ground.phase }, { on := 3, ground := Ground.phase }, { on := 4, ground := Ground.phase }, { on := 5, ground := Ground.phase }, { on := 6, ground := Ground.textOnly Departure.lateStores }, { on := 7, ground := Ground.textOnly Departure.lateStores }, { on := 8, ground := Ground.textOnly Departure.lateStores }, { on := 9, ground := Ground.textOnly Departure.lateStores }, { on := 10, ground := Ground.textOnly Departure.lateStores }, { on := 11, ground := Ground.textOnly Departure.lateStores }, { on := 12, ground := Ground.textOnly Departure.lateStores }, { on := 13, ground := Ground.textOnly Departure.lateStores }, { on := 14, ground := Ground.textOnly Departure.lateStores }, { on := 15, ground := Ground.textOnly Departure.lateStores }, { on := 16, ground := Ground.textOnly Departure.lateStores }, { on := 17, ground := Ground.textOnly Departure.lateStores }, { on := 18, ground := Ground.textOnly Departure.lateStores }, { on := 19, ground := Ground.textOnly Departure.lateStores }, { on := 20, ground := Ground.textOnly Departure.lateStores }, { on := 21, ground := Ground.textOnly Departure.lateStores }, { on := 22, ground := Ground.textOnly Departure.lateStores }, { on := 23, ground := Ground.textOnly Departure.lateStores }, { on := 24, ground := Ground.phase }, { on := 25, ground := Ground.phase }], guard := none }) rfl (fun K2 hK => ?_) AllReadyH.nil
              have yc2 := hbA.cell 2 _ rfl
              have yf2 := hbA.frz 2
              go_simp
              clear yc2 yf2
              obtain ⟨V2, hV2⟩ : ∃ V2, V2 = (V1).setCell ⟨AB, 2, none⟩ (.int .i64 a1) := ⟨_, rfl⟩
              rw [← hV2]
              have hbB : Bl AB [.int .i64 1, .int .i64 a0, .int .i64 a1, .int .i64 0, .int .i64 0, .int .i64 0, .int .i64 0, .int .i64 0, .int .i64 0] V2 := by rw [hV2]; exact hbA.set 2 _
              have hd' : (Below w.heap.size w V2 ∧ Bl w.heap.size [.int .i64 0, .int .i64 0, .int .i64 0, .int .i64 0, .int .i64 0, .int .i64 0, .int .i64 0, .int .i64 0, .int .i64 0] V2 ∧ (V2.cell? ⟨g, 0, none⟩ = some (.int .i64 a0)) ∧ (V2.cell? ⟨g, 1, none⟩ = some (.int .i64 a1)) ∧ (V2.cell? ⟨g, 2, none⟩ = some (.int .i64 a2)) ∧ (V2.cell? ⟨g, 3, none⟩ = some (.int .i64 a3)) ∧ (V2.cell? ⟨g, 4, none⟩ = some (.int .i64 a4)) ∧ (V2.cell? ⟨g, 5, none⟩ = some (.int .i64 a5)) ∧ (V2.cell? ⟨g, 6, none⟩ = some (.int .i64 a6)) ∧ (V2.cell? ⟨g, 7, none⟩ = some (.int .i64 a7))) := by
                rw [hV2]
                exact ⟨hd.1.setCell (p := ⟨AB, 2, none⟩) (Nat.le_of_lt HLA.out.1) _, hd.2.1.far (p := ⟨AB, 2, none⟩) (by have := HLA.out.1; show AB ≠ w.heap.size; omega) _, (cell_far HLA.out.2 _ _ _).trans hd.2.2.1, (cell_far HLA.out.2 _ _ _).trans hd.2.2.2.1, (cell_far HLA.out.2 _ _ _).trans hd.2.2.2.2.1, (cell_far HLA.out.2 _ _ _).trans hd.2.2.2.2.2.1, (cell_far HLA.out.2 _ _ _).trans hd.2.2.2.2.2.2.1, (cell_far HLA.out.2 _ _ _).trans hd.2.2.2.2.2.2.2.1, (cell_far HLA.out.2 _ _ _).trans hd.2.2.2.2.2.2.2.2.1, (cell_far HLA.out.2 _ _ _).trans hd.2.2.2.2.2.2.2.2.2⟩
              clear hbA hd hV2
              have hbA := hbB
              have hd := hd'
              clear hbB hd'
              refine hK.out _ _ hd (fun hHeld => ?_)
              clear hK K2
              try simp only [Act.put, List.setIfInBounds_toArray, List.set_cons_zero, List.set_cons_succ]
              refine wpAnyH_take (i := 28) (oi := { dst := some 153, op := Op.fieldAddr 31 (Operand.tmp 16) 3, type := 0, pos := "ref.go:117", after := #[{ on := 0, ground := Ground.phase }, { on := 1, ground := Ground.phase }, { on := 2, ground := Ground.phase }, { on := 3, ground := Ground.phase }, { on := 4, ground := Ground.phase }, { on := 5, ground := Ground.phase }, { on := 6, ground := Ground.phase }, { on := 7, ground := Ground.phase }, { on := 8, ground := Ground.phase }, { on := 9, ground := Ground.textOnly Departure.lateStores }, { on := 10, ground := Ground.textOnly Departure.lateStores }, { on := 11, ground := Ground.textOnly Departure.lateStores }, { on := 12, ground := Ground.textOnly Departure.lateStores }, { on := 13, ground := Ground.textOnly Departure.lateStores }, { on := 14, ground := Ground.textOnly Departure.lateStores }, { on := 15, ground := Ground.textOnly Departure.lateStores }, { on := 16, ground := Ground.textOnly Departure.lateStores }, { on := 17, ground := Ground.textOnly Departure.lateStores }, { on := 18, ground := Ground.textOnly Departure.lateStores }, { on := 19, ground := Ground.textOnly Departure.lateStores }, { on := 20, ground := Ground.textOnly Departure.lateStores }, { on := 21, ground := Ground.textOnly Departure.lateStores }, { on := 22, ground := Ground.textOnly Departure.lateStores }, { on := 23, ground := Ground.textOnly Departure.lateStores }, { on := 24, ground := Ground.phase }, { on := 25, ground := Ground.phase }, { on := 26, ground := Ground.phase }, { on := 27, ground := Ground.phase }], guard := none }) (v := .pointer (some ⟨AB, 3, none⟩)) rfl (by as_aux_lemma => kernel_rfl) (by as_aux_lemma => kernel_rfl) (by as_aux_lemma => kernel_rfl) (fun _ _ _ h => h) (Or.inl ⟨by rfl, ?_⟩) (by assumption) ?_
              · intro wq hSw
                go_simp
                try with_reducible rfl
              simp only [Act.put, List.setIfInBounds_toArray, List.set_cons_zero, List.set_cons_succ]
              refine wpAnyH_take (i := 29) (oi := { dst := some 154, op := Op.fieldAddr 24 (Operand.tmp 153) 1, type := 0, pos := "ref.go:117", after := #[{ on := 28, ground := Ground.data }, { on := 0, ground := Ground.phase }, { on := 1, ground := Ground.phase }, { on := 2, ground := Ground.phase }, { on := 3, ground := Ground.phase }, { on := 4, ground := Ground.phase }, { on := 5, ground := Ground.phase }, { on := 6, ground := Ground.phase }, { on := 7, ground := Ground.phase }, { on := 8, ground := Ground.phase }, { on := 9, ground := Ground.textOnly Departure.lateStores }, { on := 10, ground := Ground.textOnly Departure.lateStores }, { on := 11, ground := Ground.textOnly Departure.lateStores }, { on := 12, ground := Ground.textOnly Departure.lateStores }, { on := 13, ground := Ground.textOnly Departure.lateStores }, { on := 14, ground := Ground.textOnly Departure.lateStores }, { on := 15, ground := Ground.textOnly Departure.lateStores }, { on := 16, ground := Ground.textOnly Departure.lateStores }, { on := 17, ground := Ground.textOnly Departure.lateStores }, { on := 18, ground := Ground.textOnly Departure.lateStores }, { on := 19, ground := Ground.textOnly Departure.lateStores }, { on := 20, ground := Ground.textOnly Departure.lateStores }, { on := 21, ground := Ground.textOnly Departure.lateStores }, { on := 22, ground := Ground.textOnly Departure.lateStores }, { on := 23, ground := Ground.textOnly Departure.lateStores }, { on := 24, ground := Ground.phase }, { on := 25, ground := Ground.phase }, { on := 26, ground := Ground.phase }, { on := 27, ground := Ground.phase }], guard := none }) (v := .pointer (some ⟨AB, 4, none⟩)) rfl (by as_aux_lemma => kernel_rfl) (by as_aux_lemma => kernel_rfl) (by as_aux_lemma => kernel_rfl) (fun _ _ _ h => h) (Or.inl ⟨by rfl, ?_⟩) (by assumption) ?_
              · intro wq hSw
                go_simp
                try with_reducible rfl
              simp only [Act.put, List.setIfInBounds_toArray, List.set_cons_zero, List.set_cons_succ]
              refine wpAnyH_ready (rs := [30]) (by as_aux_lemma => kernel_rfl) (by simp) ?_
              refine AllReadyH.cons (o := { dst := none, op := Op.store 3 (Operand.tmp 154) (Operand.tmp 135), type := 0, pos := "ref.go:117", after := #[{ on := 29, ground := Ground.data }, { on := 8, ground := Ground.data }, { on := 27, ground := Ground.chain }, { on := 0, ground := Ground.phase }, { on := 1, ground := Ground.phase }, { on := 2, ground := Ground.phase }, { on := 3, ground := Ground.phase }, { on := 4, ground := Ground.phase }, { on := 5, ground := Ground.phase }, { on := 6, ground := Ground.phase }, { on := 7, ground := Ground.phase }, { on := 8, ground := Ground.phase }, { on := 9, ground := Ground.textOnly Departure.lateStores }, { on := 10, ground := Ground.textOnly Departure.lateStores }, { on := 11, ground := Ground.textOnly Departure.lateStores }, { on := 12, ground := Ground.textOnly Departure.lateStores }, { on := 13, ground := Ground.textOnly Departure.lateStores }, { on := 14, ground := Ground.textOnly Departure.lateStores }, { on := 15, ground := Ground.textOnly Departure.lateStores }, { on := 16, ground := Ground.textOnly Departure.lateStores }, { on := 17, ground := Ground.textOnly Departure.lateStores }, { on := 18, ground := Ground.textOnly Departure.lateStores }, { on := 19, ground := Ground.textOnly Departure.lateStores }, { on := 20, ground := Ground.textOnly Departure.lateStores }, { on := 21, ground := Ground.textOnly Departure.lateStores }, { on := 22, ground := Ground.textOnly Departure.lateStores }, { on := 23, ground := Ground.textOnly Departure.lateStores }, { on := 24, ground := Ground.phase }, { on := 25, ground := Ground.phase }, { on := 26, ground := Ground.phase }, { on := 27, ground := Ground.phase }], guard := none }) rfl (fun K2 hK => ?_) AllReadyH.nil
              have yc3 := hbA.cell 4 _ rfl
              have yf3 := hbA.frz 4
              go_simp
              clear yc3 yf3
              obtain ⟨V3, hV3⟩ : ∃ V3, V3 = (V2).setCell ⟨AB, 4, none⟩ (.int .i64 a2) := ⟨_, rfl⟩
              rw [← hV3]
              have hbB : Bl AB [.int .i64 1, .int .i64 a0, .int .i64 a1, .int .i64 0, .int .i64 a2, .int .i64 0, .int .i64 0, .int .i64 0, .int .i64 0] V3 := by rw [hV3]; exact hbA.set 4 _
              have hd' : (Below w.heap.size w V3 ∧ Bl w.heap.size [.int .i64 0, .int .i64 0, .int .i64 0, .int .i64 0, .int .i64 0, .int .i64 0, .int .i64 0, .int .i64 0, .int .i64 0] V3 ∧ (V3.cell? ⟨g, 0, none⟩ = some (.int .i64 a0)) ∧ (V3.cell? ⟨g, 1, none⟩ = some (.int .i64 a1)) ∧ (V3.cell? ⟨g, 2, none⟩ = some (.int .i64 a2)) ∧ (V3.cell? ⟨g, 3, none⟩ = some (.int .i64 a3)) ∧ (V3.cell? ⟨g, 4, none⟩ = some (.int .i64 a4)) ∧ (V3.cell? ⟨g, 5, none⟩ = some (.int .i64 a5)) ∧ (V3.cell? ⟨g, 6, none⟩ = some (.int .i64 a6)) ∧ (V3.cell? ⟨g, 7, none⟩ = some (.int .i64 a7))) := by
                rw [hV3]
                exact ⟨hd.1.setCell (p := ⟨AB, 4, none⟩) (Nat.le_of_lt HLA.out.1) _, hd.2.1.far (p := ⟨AB, 4, none⟩) (by have := HLA.out.1; show AB ≠ w.heap.size; omega) _, (cell_far HLA.out.2 _ _ _).trans hd.2.2.1, (cell_far HLA.out.2 _ _ _).trans hd.2.2.2.1, (cell_far HLA.out.2 _ _ _).trans hd.2.2.2.2.1, (cell_far HLA.out.2 _ _ _).trans hd.2.2.2.2.2.1, (cell_far HLA.out.2 _ _ _).trans hd.2.2.2.2.2.2.1, (cell_far HLA.out.2 _ _ _).trans hd.2.2.2.2.2.2.2.1, (cell_far HLA.out.2 _ _ _).trans hd.2.2.2.2.2.2.2.2.1, (cell_far HLA.out.2 _ _ _).trans hd.2.2.2.2.2.2.2.2.2⟩
              clear hbA hd hV3
              have hbA := hbB
              have hd := hd'
              clear hbB hd'
              refine hK.out _ _ hd (fun hHeld => ?_)
              clear hK K2
              try simp only [Act.put, List.setIfInBounds_toArray, List.set_cons_zero, List.set_cons_succ]
              refine wpAnyH_take (i := 31) (oi := { dst := some 155, op := Op.fieldAddr 31 (Operand.tmp 16) 3, type := 0, pos := "ref.go:117", after := #[{ on := 0, ground := Ground.phase }, { on := 1, ground := Ground.phase }, { on := 2, ground := Ground.phase }, { on := 3, ground := Ground.phase }, { on := 4, ground := Ground.phase }, { on := 5, ground := Ground.phase }, { on := 6, ground := Ground.phase }, { on := 7, ground := Ground.phase }, { on := 8, ground := Ground.phase }, { on := 9, ground := Ground.phase }, { on := 10, ground := Ground.phase }, { on := 11, ground := Ground.phase }, { on := 12, ground := Ground.textOnly Departure.lateStores }, { on := 13, ground := Ground.textOnly Departure.lateStores }, { on := 14, ground := Ground.textOnly Departure.lateStores }, { on := 15, ground := Ground.textOnly Departure.lateStores }, { on := 16, ground := Ground.textOnly Departure.lateStores }, { on := 17, ground := Ground.textOnly Departure.lateStores }, { on := 18, ground := Ground.textOnly Departure.lateStores }, { on := 19, ground := Ground.textOnly Departure.lateStores }, { on := 20, ground := Ground.textOnly Departure.lateStores }, { on := 21, ground := Ground.textOnly Departure.lateStores }, { on := 22, ground := Ground.textOnly Departure.lateStores }, { on := 23, ground := Ground.textOnly Departure.lateStores }, { on := 24, ground := Ground.phase }, { on := 25, ground := Ground.phase }, { on := 26, ground := Ground.phase }, { on := 27, ground := Ground.phase }, { on := 28, ground := Ground.phase }, { on := 29, ground := Ground.phase }, { on := 30, ground := Ground.phase }], guard := none }) (v := .pointer (some ⟨AB, 3, none⟩)) rfl (by as_aux_lemma => kernel_rfl) (by as_aux_lemma => kernel_rfl) (by as_aux_lemma => kernel_rfl) (fun _ _ _ h => h) (Or.inl ⟨by rfl, ?_⟩) (by assumption) ?_
              · intro wq hSw
                go_simp
                try with_reducible rfl
              simp only [Act.put, List.setIfInBounds_toArray, List.set_cons_zero, List.set_cons_succ]
              refine wpAnyH_take (i := 32) (oi := { dst := some 156, op := Op.fieldAddr 24 (Operand.tmp 155) 0, type := 0, pos := "ref.go:117", after := #[{ on := 31, ground := Ground.data }, { on := 0, ground := Ground.phase }, { on := 1, ground := Ground.phase }, { on := 2, ground := Ground.phase }, { on := 3, ground := Ground.phase }, { on := 4, ground := Ground.phase }, { on := 5, ground := Ground.phase }, { on := 6, ground := Ground.phase }, { on := 7, ground := Ground.phase }, { on := 8, ground := Ground.phase }, { on := 9, ground := Ground.phase }, { on := 10, ground := Ground.phase }, { on := 11, ground := Ground.phase }, { on := 12, ground := Ground.textOnly Departure.lateStores }, { on := 13, ground := Ground.textOnly Departure.lateStores }, { on := 14, ground := Ground.textOnly Departure.lateStores }, { on := 15, ground := Ground.textOnly Departure.lateStores }, { on := 16, ground := Ground.textOnly Departure.lateStores }, { on := 17, ground := Ground.textOnly Departure.lateStores }, { on := 18, ground := Ground.textOnly Departure.lateStores }, { on := 19, ground := Ground.textOnly Departure.lateStores }, { on := 20, ground := Ground.textOnly Departure.lateStores }, { on := 21, ground := Ground.textOnly Departure.lateStores }, { on := 22, ground := Ground.textOnly Departure.lateStores }, { on := 23, ground := Ground.textOnly Departure.lateStores }, { on := 24, ground := Ground.phase }, { on := 25, ground := Ground.phase }, { on := 26, ground := Ground.phase }, { on := 27, ground := Ground.phase }, { on := 28, ground := Ground.phase }, { on := 29, ground := Ground.phase }, { on := 30, ground := Ground.phase }], guard := none }) (v := .pointer (some ⟨AB, 3, none⟩)) rfl (by as_aux_lemma => kernel_rfl) (by as_aux_lemma => kernel_rfl) (by as_aux_lemma => kernel_rfl) (fun _ _ _ h => h) (Or.inl ⟨by rfl, ?_⟩) (by assumption) ?_
              · intro wq hSw
                go_simp
                try with_reducible rfl
              simp only [Act.put, List.setIfInBounds_toArray, List.set_cons_zero, List.set_cons_succ]
              refine wpAnyH_ready (rs := [33]) (by as_aux_lemma => kernel_rfl) (by simp) ?_
              refine AllReadyH.cons (o := { dst := none, op := Op.store 3 (Operand.tmp 156) (Operand.tmp 138), type := 0, pos := "ref.go:117", after := #[{ on := 32, ground := Ground.data }, { on := 11, ground := Ground.data }, { on := 30, ground := Ground.chain }, { on := 0, ground := Ground.phase }, { on := 1, ground := Ground.phase }, { on := 2, ground := Ground.phase }, { on := 3, ground := Ground.phase }, { on := 4, ground := Ground.phase }, { on := 5, ground := Ground.phase }, { on := 6, ground := Ground.phase }, { on := 7, ground := Ground.phase }, { on := 8, ground := Ground.phase }, { on := 9, ground := Ground.phase }, { on := 10, ground := Ground.phase }, { on := 11, ground := Ground.phase }, { on := 12, ground := Ground.textOnly Departure.lateStores }, { on := 13, ground := Ground.textOnly Departure.lateStores }, { on := 14, ground := Ground.textOnly Departure.lateStores }, { on := 15, ground := Ground.textOnly Departure.lateStores }, { on := 16, ground := Ground.textOnly Departure.lateStores }, { on := 17, ground := Ground.textOnly Departure.lateStores }, { on := 18, ground := Ground.textOnly Departure.lateStores }, { on := 19, ground := Ground.textOnly Departure.lateStores }, { on := 20, ground := Ground.textOnly Departure.lateStores }, { on := 21, ground := Ground.textOnly Departure.lateStores }, { on := 22, ground := Ground.textOnly Departure.lateStores }, { on := 23, ground := Ground.textOnly Departure.lateStores }, { on := 24, ground := Ground.phase }, { on := 25, ground := Ground.phase }, { on := 26, ground := Ground.phase }, { on := 27, ground := Ground.phase }, { on := 28, ground := Ground.phase }, { on := 29, ground := Ground.phase }, { on := 30, ground := Ground.phase }], guard := none }) rfl (fun K2 hK => ?_) AllReadyH.nil
              have yc4 := hbA.cell 3 _ rfl
              have yf4 := hbA.frz 3
              go_simp
              clear yc4 yf4
              obtain ⟨V4, hV4⟩ : ∃ V4, V4 = (V3).setCell ⟨AB, 3, none⟩ (.int .i64 a3) := ⟨_, rfl⟩
              rw [← hV4]
              have hbB : Bl AB [.int .i64 1, .int .i64 a0, .int .i64 a1, .int .i64 a3, .int .i64 a2, .int .i64 0, .int .i64 0, .int .i64 0, .int .i64 0] V4 := by rw [hV4]; exact hbA.set 3 _
              have hd' : (Below w.heap.size w V4 ∧ Bl w.heap.size [.int .i64 0, .int .i64 0, .int .i64 0, .int .i64 0, .int .i64 0, .int .i64 0, .int .i64 0, .int .i64 0, .int .i64 0] V4 ∧ (V4.cell? ⟨g, 0, none⟩ = some (.int .i64 a0)) ∧ (V4.cell? ⟨g, 1, none⟩ = some (.int .i64 a1)) ∧ (V4.cell? ⟨g, 2, none⟩ = some (.int .i64 a2)) ∧ (V4.cell? ⟨g, 3, none⟩ = some (.int .i64 a3)) ∧ (V4.cell? ⟨g, 4, none⟩ = some (.int .i64 a4)) ∧ (V4.cell? ⟨g, 5, none⟩ = some (.int .i64 a5)) ∧ (V4.cell? ⟨g, 6, none⟩ = some (.int .i64 a6)) ∧ (V4.cell? ⟨g, 7, none⟩ = some (.int .i64 a7))) := by
                rw [hV4]
                exact ⟨hd.1.setCell (p := ⟨AB, 3, none⟩) (Nat.le_of_lt HLA.out.1) _, hd.2.1.far (p := ⟨AB, 3, none⟩) (by have := HLA.out.1; show AB ≠ w.heap.size; omega) _, (cell_far HLA.out.2 _ _ _).trans hd.2.2.1, (cell_far HLA.out.2 _ _ _).trans hd.2.2.2.1, (cell_far HLA.out.2 _ _ _).trans hd.2.2.2.2.1, (cell_far HLA.out.2 _ _ _).trans hd.2.2.2.2.2.1, (cell_far HLA.out.2 _ _ _).trans hd.2.2.2.2.2.2.1, (cell_far HLA.out.2 _ _ _).trans hd.2.2.2.2.2.2.2.1, (cell_far HLA.out.2 _ _ _).trans hd.2.2.2.2.2.2.2.2.1, (cell_far HLA.out.2 _ _ _).trans hd.2.2.2.2.2.2.2.2.2⟩
              clear hbA hd hV4
              have hbA := hbB
              have hd := hd'
              clear hbB hd'
              refine hK.out _ _ hd (fun hHeld => ?_)
              clear hK K2
              try simp only [Act.put, List.setIfInBounds_toArray, List.set_cons_zero, List.set_cons_succ]
              refine wpAnyH_take (i := 34) (oi := { dst := some 157, op := Op.fieldAddr 31 (Operand.tmp 16) 4, type := 0, pos := "ref.go:117", after := #[{ on := 0, ground := Ground.phase }, { on := 1, ground := Ground.phase }, { on := 2, ground := Ground.phase }, { on := 3, ground := Ground.phase }, { on := 4, ground := Ground.phase }, { on := 5, ground := Ground.phase }, { on := 6, ground := Ground.phase }, { on := 7, ground := Ground.phase }, { on := 8, ground := Ground.phase }, { on := 9, ground := Ground.phase }, { on := 10, ground := Ground.phase }, { on := 11, ground := Ground.phase }, { on := 12, ground := Ground.phase }, { on := 13, ground := Ground.phase }, { on := 14, ground := Ground.phase }, { on := 15, ground := Ground.textOnly Departure.lateStores }, { on := 16, ground := Ground.textOnly Departure.lateStores }, { on := 17, ground := Ground.textOnly Departure.lateStores }, { on := 18, ground := Ground.textOnly Departure.lateStores }, { on := 19, ground := Ground.textOnly Departure.lateStores }, { on := 20, ground := Ground.textOnly Departure.lateStores }, { on := 21, ground := Ground.textOnly Departure.lateStores }, { on := 22, ground := Ground.textOnly Departure.lateStores }, { on := 23, ground := Ground.textOnly Departure.lateStores }, { on := 24, ground := Ground.phase }, { on := 25, ground := Ground.phase }, { on := 26, ground := Ground.phase }, { on := 27, ground := Ground.phase }, { on := 28, ground := Ground.phase }, { on := 29, ground := Ground.phase }, { on := 30, ground := Ground.phase }, { on := 31, ground := Ground.phase }, { on := 32, ground := Ground.phase }, { on := 33, ground := Ground.phase }], guard := none }) (v := .pointer (some ⟨AB, 8, none⟩)) rfl (by as_aux_lemma => kernel_rfl) (by as_aux_lemma => kernel_rfl) (by as_aux_lemma => kernel_rfl) (fun _ _ _ h => h) (Or.inl ⟨by rfl, ?_⟩) (by assumption) ?_
              · intro wq hSw
                go_simp
                try with_reducible rfl
              simp only [Act.put, List.setIfInBounds_toArray, List.set_cons_zero, List.set_cons_succ]
              refine wpAnyH_ready (rs := [35]) (by as_aux_lemma => kernel_rfl) (by simp) ?_
              refine AllReadyH.cons (o := { dst := none, op := Op.store 3 (Operand.tmp 157) (Operand.tmp 141), type := 0, pos := "ref.go:117", after := #[{ on := 34, ground := Ground.data }, { on := 14, ground := Ground.data }, { on := 33, ground := Ground.chain }, { on := 0, ground := Ground.phase }, { on := 1, ground := Ground.phase }, { on := 2, ground := Ground.phase }, { on := 3, ground := Ground.phase }, { on := 4, ground := Ground.phase }, { on := 5, ground := Ground.phase }, { on := 6, ground := Ground.phase }, { on := 7, ground := Ground.phase }, { on := 8, ground := Ground.phase }, { on := 9, ground := Ground.phase }, { on := 10, ground := Ground.phase }, { on := 11, ground := Ground.phase }, { on := 12, ground := Ground.phase }, { on := 13, ground := Ground.phase }, { on := 14, ground := Ground.phase }, { on := 15, ground := Ground.textOnly Departure.lateStores }, { on := 16, ground := Ground.textOnly Departure.lateStores }, { on := 17, ground := Ground.textOnly Departure.lateStores }, { on := 18, ground := Ground.textOnly Departure.lateStores }, { on := 19, ground := Ground.textOnly Departure.lateStores }, { on := 20, ground := Ground.textOnly Departure.lateStores }, { on := 21, ground := Ground.textOnly Departure.lateStores }, { on := 22, ground := Ground.textOnly Departure.lateStores }, { on := 23, ground := Ground.textOnly Departure.lateStores }, { on := 24, ground := Ground.phase }, { on := 25, ground := Ground.phase }, { on := 26, ground := Ground.phase }, { on := 27, ground := Ground.phase }, { on := 28, ground := Ground.phase }, { on := 29, ground := Ground.phase }, { on := 30, ground := Ground.phase }, { on := 31, ground := Ground.phase }, { on := 32, ground := Ground.phase }, { on := 33, ground := Ground.phase }], guard := none }) rfl (fun K2 hK => ?_) AllReadyH.nil
              have yc5 := hbA.cell 8 _ rfl
              have yf5 := hbA.frz 8
              go_simp
              clear yc5 yf5
              obtain ⟨V5, hV5⟩ : ∃ V5, V5 = (V4).setCell ⟨AB, 8, none⟩ (.int .i64 a4) := ⟨_, rfl⟩
              rw [← hV5]
              have hbB : Bl AB [.int .i64 1, .int .i64 a0, .int .i64 a1, .int .i64 a3, .int .i64 a2, .int .i64 0, .int .i64 0, .int .i64 0, .int .i64 a4] V5 := by rw [hV5]; exact hbA.set 8 _
              have hd' : (Below w.heap.size w V5 ∧ Bl w.heap.size [.int .i64 0, .int .i64 0, .int .i64 0, .int .i64 0, .int .i64 0, .int .i64 0, .int .i64 0, .int .i64 0, .int .i64 0] V5 ∧ (V5.cell? ⟨g, 0, none⟩ = some (.int .i64 a0)) ∧ (V5.cell? ⟨g, 1, none⟩ = some (.int .i64 a1)) ∧ (V5.cell? ⟨g, 2, none⟩ = some (.int .i64 a2)) ∧ (V5.cell? ⟨g, 3, none⟩ = some (.int .i64 a3)) ∧ (V5.cell? ⟨g, 4, none⟩ = some (.int .i64 a4)) ∧ (V5.cell? ⟨g, 5, none⟩ = some (.int .i64 a5)) ∧ (V5.cell? ⟨g, 6, none⟩ = some (.int .i64 a6)) ∧ (V5.cell? ⟨g, 7, none⟩ = some (.int .i64 a7))) := by
                rw [hV5]
                exact ⟨hd.1.setCell (p := ⟨AB, 8, none⟩) (Nat.le_of_lt HLA.out.1) _, hd.2.1.far (p := ⟨AB, 8, none⟩) (by have := HLA.out.1; show AB ≠ w.heap.size; omega) _, (cell_far HLA.out.2 _ _ _).trans hd.2.2.1, (cell_far HLA.out.2 _ _ _).trans hd.2.2.2.1, (cell_far HLA.out.2 _ _ _).trans hd.2.2.2.2.1, (cell_far HLA.out.2 _ _ _).trans hd.2.2.2.2.2.1, (cell_far HLA.out.2 _ _ _).trans hd.2.2.2.2.2.2.1, (cell_far HLA.out.2 _ _ _).trans hd.2.2.2.2.2.2.2.1, (cell_far HLA.out.2 _ _ _).trans hd.2.2.2.2.2.2.2.2.1, (cell_far HLA.out.2 _ _ _).trans hd.2.2.2.2.2.2.2.2.2⟩
              clear hbA hd hV5
              have hbA := hbB
              have hd := hd'
              clear hbB hd'
              refine hK.out _ _ hd (fun hHeld => ?_)
              clear hK K2
              try simp only [Act.put, List.setIfInBounds_toArray, List.set_cons_zero, List.set_cons_succ]
              refine wpAnyH_take (i := 36) (oi := { dst := some 158, op := Op.fieldAddr 31 (Operand.tmp 16) 3, type := 0, pos := "ref.go:117", after := #[{ on := 0, ground := Ground.phase }, { on := 1, ground := Ground.phase }, { on := 2, ground := Ground.phase }, { on := 3, ground := Ground.phase }, { on := 4, ground := Ground.phase }, { on := 5, ground := Ground.phase }, { on := 6, ground := Ground.phase }, { on := 7, ground := Ground.phase }, { on := 8, ground := Ground.phase }, { on := 9, ground := Ground.phase }, { on := 10, ground := Ground.phase }, { on := 11, ground := Ground.phase }, { on := 12, ground := Ground.phase }, { on := 13, ground := Ground.phase }, { on := 14, ground := Ground.phase }, { on := 15, ground := Ground.phase }, { on := 16, ground := Ground.phase }, { on := 17, ground := Ground.phase }, { on := 18, ground := Ground.textOnly Departure.lateStores }, { on := 19, ground := Ground.textOnly Departure.lateStores }, { on := 20, ground := Ground.textOnly Departure.lateStores }, { on := 21, ground := Ground.textOnly Departure.lateStores }, { on := 22, ground := Ground.textOnly Departure.lateStores }, { on := 23, ground := Ground.textOnly Departure.lateStores }, { on := 24, ground := Ground.phase }, { on := 25, ground := Ground.phase }, { on := 26, ground := Ground.phase }, { on := 27, ground := Ground.phase }, { on := 28, ground := Ground.phase }, { on := 29, ground := Ground.phase }, { on := 30, ground := Ground.phase }, { on := 31, ground := Ground.phase }, { on := 32, ground := Ground.phase }, { on := 33, ground := Ground.phase }, { on := 34, ground := Ground.phase }, { on := 35, ground := Ground.phase }], guard := none }) (v := .pointer (some ⟨AB, 3, none⟩)) rfl (by as_aux_lemma => kernel_rfl) (by as_aux_lemma => kernel_rfl) (by as_aux_lemma => kernel_rfl) (fun _ _ _ h => h) (Or.inl ⟨by rfl, ?_⟩) (by assumption) ?_
              · intro wq hSw
                go_simp
                try with_reducible rfl
              simp only [Act.put, List.setIfInBounds_toArray, List.set_cons_zero, List.set_cons_succ]
              refine wpAnyH_take (i := 37) (oi := { dst := some 159, op := Op.fieldAddr 24 (Operand.tmp 158) 2, type := 0, pos := "ref.go:117", after := #[{ on := 36, ground := Ground.data }, { on := 0, ground := Ground.phase }, { on := 1, ground := Ground.phase }, { on := 2, ground := Ground.phase }, { on := 3, ground := Ground.phase }, { on := 4, ground := Ground.phase }, { on := 5, ground := Ground.phase }, { on := 6, ground := Ground.phase }, { on := 7, ground := Ground.phase }, { on := 8, ground := Ground.phase }, { on := 9, ground := Ground.phase }, { on := 10, ground := Ground.phase }, { on := 11, ground := Ground.phase }, { on := 12, ground := Ground.phase }, { on := 13, ground := Ground.phase }, { on := 14, ground := Ground.phase }, { on := 15, ground := Ground.phase }, { on := 16, ground := Ground.phase }, { on := 17, ground := Ground.phase }, { on := 18, ground := Ground.textOnly Departure.lateStores }, { on := 19, ground := Ground.textOnly Departure.lateStores }, { on := 20, ground := Ground.textOnly Departure.lateStores }, { on := 21, ground := Ground.textOnly Departure.lateStores }, { on := 22, ground := Ground.textOnly Departure.lateStores }, { on := 23, ground := Ground.textOnly Departure.lateStores }, { on := 24, ground := Ground.phase }, { on := 25, ground := Ground.phase }, { on := 26, ground := Ground.phase }, { on := 27, ground := Ground.phase }, { on := 28, ground := Ground.phase }, { on := 29, ground := Ground.phase }, { on := 30, ground := Ground.phase }, { on := 31, ground := Ground.phase }, { on := 32, ground := Ground.phase }, { on := 33, ground := Ground.phase }, { on := 34, ground := Ground.phase }, { on := 35, ground := Ground.phase }], guard := none }) (v := .pointer (some ⟨AB, 5, none⟩)) rfl (by as_aux_lemma => kernel_rfl) (by as_aux_lemma => kernel_rfl) (by as_aux_lemma => kernel_rfl) (fun _ _ _ h => h) (Or.inl ⟨by rfl, ?_⟩) (by assumption) ?_
              · intro wq hSw
                go_simp
                try with_reducible rfl
              simp only [Act.put, List.setIfInBounds_toArray, List.set_cons_zero, List.set_cons_succ]
              refine wpAnyH_ready (rs := [38]) (by as_aux_lemma => kernel_rfl) (by simp) ?_
              refine AllReadyH.cons (o := { dst := none, op := Op.store 3 (Operand.tmp 159) (Operand.tmp 144), type := 0, pos := "ref.go:117", after := #[{ on := 37, ground := Ground.data }, { on := 17, ground := Ground.data }, { on := 35, ground := Ground.chain }, { on := 0, ground := Ground.phase }, { on := 1, ground := Ground.phase }, { on := 2, ground := Ground.phase }, { on := 3, ground := Ground.phase }, { on := 4, ground := Ground.phase }, { on := 5, ground := Ground.phase }, { on := 6, ground := Ground.phase }, { on := 7, ground := Ground.phase }, { on := 8, ground := Ground.phase }, { on := 9, ground := Ground.phase }, { on := 10, ground := Ground.phase }, { on := 11, ground := Ground.phase }, { on := 12, ground := Ground.phase }, { on := 13, ground := Ground.phase }, { on := 14, ground := Ground.phase }, { on := 15, ground := Ground.phase }, { on := 16, ground := Ground.phase }, { on := 17, ground := Ground.phase }, { on := 18, ground := Ground.textOnly Departure.lateStores }, { on := 19, ground := Ground.textOnly Departure.lateStores }, { on := 20, ground := Ground.textOnly Departure.lateStores }, { on := 21, ground := Ground.textOnly Departure.lateStores }, { on := 22, ground := Ground.textOnly Departure.lateStores }, { on := 23, ground := Ground.textOnly Departure.lateStores }, { on := 24, ground := Ground.phase }, { on := 25, ground := Ground.phase }, { on := 26, ground := Ground.phase }, { on := 27, ground := Ground.phase }, { on := 28, ground := Ground.phase }, { on := 29, ground := Ground.phase }, { on := 30, ground := Ground.phase }, { on := 31, ground := Ground.phase }, { on := 32, ground := Ground.phase }, { on := 33, ground := Ground.phase }, { on := 34, ground := Ground.phase }, { on := 35, ground := Ground.phase }], guard := none }) rfl (fun K2 hK => ?_) AllReadyH.nil
              have yc6 := hbA.cell 5 _ rfl
              have yf6 := hbA.frz 5
              go_simp
              clear yc6 yf6
              obtain ⟨V6, hV6⟩ : ∃ V6, V6 = (V5).setCell ⟨AB, 5, none⟩ (.int .i64 a5) := ⟨_, rfl⟩
              rw [← hV6]
              have hbB : Bl AB [.int .i64 1, .int .i64 a0, .int .i64 a1, .int .i64 a3, .int .i64 a2, .int .i64 a5, .int .i64 0, .int .i64 0, .int .i64 a4] V6 := by rw [hV6]; exact hbA.set 5 _
              have hd' : (Below w.heap.size w V6 ∧ Bl w.heap.size [.int .i64 0, .int .i64 0, .int .i64 0, .int .i64 0, .int .i64 0, .int .i64 0, .int .i64 0, .int .i64 0, .int .i64 0] V6 ∧ (V6.cell? ⟨g, 0, none⟩ = some (.int .i64 a0)) ∧ (V6.cell? ⟨g, 1, none⟩ = some (.int .i64 a1)) ∧ (V6.cell? ⟨g, 2, none⟩ = some (.int .i64 a2)) ∧ (V6.cell? ⟨g, 3, none⟩ = some (.int .i64 a3)) ∧ (V6.cell? ⟨g, 4, none⟩ = some (.int .i64 a4)) ∧ (V6.cell? ⟨g, 5, none⟩ = some (.int .i64 a5)) ∧ (V6.cell? ⟨g, 6, none⟩ = some (.int .i64 a6)) ∧ (V6.cell? ⟨g, 7, none⟩ = some (.int .i64 a7))) := by
                rw [hV6]
                exact ⟨hd.1.setCell (p := ⟨AB, 5, none⟩) (Nat.le_of_lt HLA.out.1) _, hd.2.1.far (p := ⟨AB, 5, none⟩) (by have := HLA.out.1; show AB ≠ w.heap.size; omega) _, (cell_far HLA.out.2 _ _ _).trans hd.2.2.1, (cell_far HLA.out.2 _ _ _).trans hd.2.2.2.1, (cell_far HLA.out.2 _ _ _).trans hd.2.2.2.2.1, (cell_far HLA.out.2 _ _ _).trans hd.2.2.2.2.2.1, (cell_far HLA.out.2 _ _ _).trans hd.2.2.2.2.2.2.1, (cell_far HLA.out.2 _ _ _).trans hd.2.2.2.2.2.2.2.1, (cell_far HLA.out.2 _ _ _).trans hd.2.2.2.2.2.2.2.2.1, (cell_far HLA.out.2 _ _ _).trans hd.2.2.2.2.2.2.2.2.2⟩
              clear hbA hd hV6
              have hbA := hbB
              have hd := hd'
              clear hbB hd'
              refine hK.out _ _ hd (fun hHeld => ?_)
              clear hK K2
              try simp only [Act.put, List.setIfInBounds_toArray, List.set_cons_zero, List.set_cons_succ]
              refine wpAnyH_take (i := 39) (oi := { dst := some 160, op := Op.fieldAddr 31 (Operand.tmp 16) 3, type := 0, pos := "ref.go:117", after := #[{ on := 0, ground := Ground.phase }, { on := 1, ground := Ground.phase }, { on := 2, ground := Ground.phase }, { on := 3, ground := Ground.phase }, { on := 4, ground := Ground.phase }, { on := 5, ground := Ground.phase }, { on := 6, ground := Ground.phase }, { on := 7, ground := Ground.phase }, { on := 8, ground := Ground.phase }, { on := 9, ground := Ground.phase }, { on := 10, ground := Ground.phase }, { on := 11, ground := Ground.phase }, { on := 12, ground := Ground.phase }, { on := 13, ground := Ground.phase }, { on := 14, ground := Ground.phase }, { on := 15, ground := Ground.phase }, { on := 16, ground := Ground.phase }, { on := 17, ground := Ground.phase }, { on := 18, ground := Ground.phase }, { on := 19, ground := Ground.phase }, { on := 20, ground := Ground.phase }, { on := 21, ground := Ground.textOnly Departure.lateStores }, { on := 22, ground := Ground.textOnly Departure.lateStores }, { on := 23, ground := Ground.textOnly Departure.lateStores }, { on := 24, ground := Ground.phase }, { on := 25, ground := Ground.phase }, { on := 26, ground := Ground.phase }, { on := 27, ground := Ground.phase }, { on := 28, ground := Ground.phase }, { on := 29, ground := Ground.phase }, { on := 30, ground := Ground.phase }, { on := 31, ground := Ground.phase }, { on := 32, ground := Ground.phase }, { on := 33, ground := Ground.phase }, { on := 34, ground := Ground.phase }, { on := 35, ground := Ground.phase }, { on := 36, ground := Ground.phase }, { on := 37, ground := Ground.phase }, { on := 38, ground := Ground.phase }], guard := none }) (v := .pointer (some ⟨AB, 3, none⟩)) rfl (by as_aux_lemma => kernel_rfl) (by as_aux_lemma => kernel_rfl) (by as_aux_lemma => kernel_rfl) (fun _ _ _ h => h) (Or.inl ⟨by rfl, ?_⟩) (by assumption) ?_
              · intro wq hSw
                go_simp
                try with_reducible rfl
              simp only [Act.put, List.setIfInBounds_toArray, List.set_cons_zero, List.set_cons_succ]
              refine wpAnyH_take (i := 40) (oi := { dst := some 161, op := Op.fieldAddr 24 (Operand.tmp 160) 3, type := 0, pos := "ref.go:117", after := #[{ on := 39, ground := Ground.data }, { on := 0, ground := Ground.phase }, { on := 1, ground := Ground.phase }, { on := 2, ground := Ground.phase }, { on := 3, ground := Ground.phase }, { on := 4, ground := Ground.phase }, { on := 5, ground := Ground.phase }, { on := 6, ground := Ground.phase }, { on := 7, ground := Ground.phase }, { on := 8, ground := Ground.phase }, { on := 9, ground := Ground.phase }, { on := 10, ground := Ground.phase }, { on := 11, ground := Ground.phase }, { on := 12, ground := Ground.phase }, { on := 13, ground := Ground.phase }, { on := 14, ground := Ground.phase }, { on := 15, ground := Ground.phase }, { on := 16, ground := Ground.phase }, { on := 17, ground := Ground.phase }, { on := 18, ground := Ground.phase }, { on := 19, ground := Ground.phase }, { on := 20, ground := Ground.phase }, { on := 21, ground := Ground.textOnly Departure.lateStores }, { on := 22, ground := Ground.textOnly Departure.lateStores }, { on := 23, ground := Ground.textOnly Departure.lateStores }, { on := 24, ground := Ground.phase }, { on := 25, ground := Ground.phase }, { on := 26, ground := Ground.phase }, { on := 27, ground := Ground.phase }, { on := 28, ground := Ground.phase }, { on := 29, ground := Ground.phase }, { on := 30, ground := Ground.phase }, { on := 31, ground := Ground.phase }, { on := 32, ground := Ground.phase }, { on := 33, ground := Ground.phase }, { on := 34, ground := Ground.phase }, { on := 35, ground := Ground.phase }, { on := 36, ground := Ground.phase }, { on := 37, ground := Ground.phase }, { on := 38, ground := Ground.phase }], guard := none }) (v := .pointer (some ⟨AB, 6, none⟩)) rfl (by as_aux_lemma => kernel_rfl) (by as_aux_lemma => kernel_rfl) (by as_aux_lemma => kernel_rfl) (fun _ _ _ h => h) (Or.inl ⟨by rfl, ?_⟩) (by assumption) ?_
              · intro wq hSw
                go_simp
                try with_reducible rfl
              simp only [Act.put, List.setIfInBounds_toArray, List.set_cons_zero, List.set_cons_succ]
              refine wpAnyH_ready (rs := [41]) (by as_aux_lemma => kernel_rfl) (by simp) ?_
              refine AllReadyH.cons (o := { dst := none, op := Op.store 3 (Operand.tmp 161) (Operand.tmp 147), type := 0, pos := "ref.go:117", after := #[{ on := 40, ground := Ground.data }, { on := 20, ground := Ground.data }, { on := 38, ground := Ground.chain }, { on := 0, ground := Ground.phase }, { on := 1, ground := Ground.phase }, { on := 2, ground := Ground.phase }, { on := 3, ground := Ground.phase }, { on := 4, ground := Ground.phase }, { on := 5, ground := Ground.phase }, { on := 6, ground := Ground.phase }, { on := 7, ground := Ground.phase }, { on := 8, ground := Ground.phase }, { on := 9, ground := Ground.phase }, { on := 10, ground := Ground.phase }, { on := 11, ground := Ground.phase }, { on := 12, ground := Ground.phase }, { on := 13, ground := Ground.phase }, { on := 14, ground := Ground.phase }, { on := 15, ground := Ground.phase }, { on := 16, ground := Ground.phase }, { on := 17, ground := Ground.phase }, { on := 18, ground := Ground.phase }, { on := 19, ground := Ground.phase }, { on := 20, ground := Ground.phase }, { on := 21, ground := Ground.textOnly Departure.lateStores }, { on := 22, ground := Ground.textOnly Departure.lateStores }, { on := 23, ground := Ground.textOnly Departure.lateStores }, { on := 24, ground := Ground.phase }, { on := 25, ground := Ground.phase }, { on := 26, ground := Ground.phase }, { on := 27, ground := Ground.phase }, { on := 28, ground := Ground.phase }, { on := 29, ground := Ground.phase }, { on := 30, ground := Ground.phase }, { on := 31, ground := Ground.phase }, { on := 32, ground := Ground.phase }, { on := 33, ground := Ground.phase }, { on := 34, ground := Ground.phase }, { on := 35, ground := Ground.phase }, { on := 36, ground := Ground.phase }, { on := 37, ground := Ground.phase }, { on := 38, ground := Ground.phase }], guard := none }) rfl (fun K2 hK => ?_) AllReadyH.nil
              have yc7 := hbA.cell 6 _ rfl
              have yf7 := hbA.frz 6
              go_simp
              clear yc7 yf7
              obtain ⟨V7, hV7⟩ : ∃ V7, V7 = (V6).setCell ⟨AB, 6, none⟩ (.int .i64 a6) := ⟨_, rfl⟩
              rw [← hV7]
              have hbB : Bl AB [.int .i64 1, .int .i64 a0, .int .i64 a1, .int .i64 a3, .int .i64 a2, .int .i64 a5, .int .i64 a6, .int .i64 0, .int .i64 a4] V7 := by rw [hV7]; exact hbA.set 6 _
              have hd' : (Below w.heap.size w V7 ∧ Bl w.heap.size [.int .i64 0, .int .i64 0, .int .i64 0, .int .i64 0, .int .i64 0, .int .i64 0, .int .i64 0, .int .i64 0, .int .i64 0] V7 ∧ (V7.cell? ⟨g, 0, none⟩ = some (.int .i64 a0)) ∧ (V7.cell? ⟨g, 1, none⟩ = some (.int .i64 a1)) ∧ (V7.cell? ⟨g, 2, none⟩ = some (.int .i64 a2)) ∧ (V7.cell? ⟨g, 3, none⟩ = some (.int .i64 a3)) ∧ (V7.cell? ⟨g, 4, none⟩ = some (.int .i64 a4)) ∧ (V7.cell? ⟨g, 5, none⟩ = some (.int .i64 a5)) ∧ (V7.cell? ⟨g, 6, none⟩ = some (.int .i64 a6)) ∧ (V7.cell? ⟨g, 7, none⟩ = some (.int .i64 a7))) := by
                rw [hV7]
                exact ⟨hd.1.setCell (p := ⟨AB, 6, none⟩) (Nat.le_of_lt HLA.out.1) _, hd.2.1.far (p := ⟨AB, 6, none⟩) (by have := HLA.out.1; show AB ≠ w.heap.size; omega) _, (cell_far HLA.out.2 _ _ _).trans hd.2.2.1, (cell_far HLA.out.2 _ _ _).trans hd.2.2.2.1, (cell_far HLA.out.2 _ _ _).trans hd.2.2.2.2.1, (cell_far HLA.out.2 _ _ _).trans hd.2.2.2.2.2.1, (cell_far HLA.out.2 _ _ _).trans hd.2.2.2.2.2.2.1, (cell_far HLA.out.2 _ _ _).trans hd.2.2.2.2.2.2.2.1, (cell_far HLA.out.2 _ _ _).trans hd.2.2.2.2.2.2.2.2.1, (cell_far HLA.out.2 _ _ _).trans hd.2.2.2.2.2.2.2.2.2⟩
              clear hbA hd hV7
              have hbA := hbB
              have hd := hd'
              clear hbB hd'
              refine hK.out _ _ hd (fun hHeld => ?_)
              clear hK K2
              try simp only [Act.put, List.setIfInBounds_toArray, List.set_cons_zero, List.set_cons_succ]
              refine wpAnyH_take (i := 42) (oi := { dst := some 162, op := Op.fieldAddr 31 (Operand.tmp 16) 3, type := 0, pos := "ref.go:117", after := #[{ on := 0, ground := Ground.phase }, { on := 1, ground := Ground.phase }, { on := 2, ground := Ground.phase }, { on := 3, ground := Ground.phase }, { on := 4, ground := Ground.phase }, { on := 5, ground := Ground.phase }, { on := 6, ground := Ground.phase }, { on := 7, ground := Ground.phase }, { on := 8, ground := Ground.phase }, { on := 9, ground := Ground.phase }, { on := 10, ground := Ground.phase }, { on := 11, ground := Ground.phase }, { on := 12, ground := Ground.phase }, { on := 13, ground := Ground.phase }, { on := 14, ground := Ground.phase }, { on := 15, ground := Ground.phase }, { on := 16, ground := Ground.phase }, { on := 17, ground := Ground.phase }, { on := 18, ground := Ground.phase }, { on := 19, ground := Ground.phase }, { on := 20, ground := Ground.phase }, { on := 21, ground := Ground.phase }, { on := 22, ground := Ground.phase }, { on := 23, ground := Ground.phase }, { on := 24, ground := Ground.phase }, { on := 25, ground := Ground.phase }, { on := 26, ground := Ground.phase }, { on := 27, ground := Ground.phase }, { on := 28, ground := Ground.phase }, { on := 29, ground := Ground.phase }, { on := 30, ground := Ground.phase }, { on := 31, ground := Ground.phase }, { on := 32, ground := Ground.phase }, { on := 33, ground := Ground.phase }, { on := 34, ground := Ground.phase }, { on := 35, ground := Ground.phase }, { on := 36, ground := Ground.phase }, { on := 37, ground := Ground.phase }, { on := 38, ground := Ground.phase }, { on := 39, ground := Ground.phase }, { on := 40, ground := Ground.phase }, { on := 41, ground := Ground.phase }], guard := none }) (v := .pointer (some ⟨AB, 3, none⟩)) rfl (by as_aux_lemma => kernel_rfl) (by as_aux_lemma => kernel_rfl) (by as_aux_lemma => kernel_rfl) (fun _ _ _ h => h) (Or.inl ⟨by rfl, ?_⟩) (by assumption) ?_
              · intro wq hSw
                go_simp
                try with_reducible rfl
              simp only [Act.put, List.setIfInBounds_toArray, List.set_cons_zero, List.set_cons_succ]
              refine wpAnyH_take (i := 43) (oi := { dst := some 163, op := Op.fieldAddr 24 (Operand.tmp 162) 4, type := 0, pos := "ref.go:117", after := #[{ on := 42, ground := Ground.data }, { on := 0, ground := Ground.phase }, { on := 1, ground := Ground.phase }, { on := 2, ground := Ground.phase }, { on := 3, ground := Ground.phase }, { on := 4, ground := Ground.phase }, { on := 5, ground := Ground.phase }, { on := 6, ground := Ground.phase }, { on := 7, ground := Ground.phase }, { on := 8, ground := Ground.phase }, { on := 9, ground := Ground.phase }, { on := 10, ground := Ground.phase }, { on := 11, ground := Ground.phase }, { on := 12, ground := Ground.phase }, { on := 13, ground := Ground.phase }, { on := 14, ground := Ground.phase }, { on := 15, ground := Ground.phase }, { on := 16, ground := Ground.phase }, { on := 17, ground := Ground.phase }, { on := 18, ground := Ground.phase }, { on := 19, ground := Ground.phase }, { on := 20, ground := Ground.phase }, { on := 21, ground := Ground.phase }, { on := 22, ground := Ground.phase }, { on := 23, ground := Ground.phase }, { on := 24, ground := Ground.phase }, { on := 25, ground := Ground.phase }, { on := 26, ground := Ground.phase }, { on := 27, ground := Ground.phase }, { on := 28, ground := Ground.phase }, { on := 29, ground := Ground.phase }, { on := 30, ground := Ground.phase }, { on := 31, ground := Ground.phase }, { on := 32, ground := Ground.phase }, { on := 33, ground := Ground.phase }, { on := 34, ground := Ground.phase }, { on := 35, ground := Ground.phase }, { on := 36, ground := Ground.phase }, { on := 37, ground := Ground.phase }, { on := 38, ground := Ground.phase }, { on := 39, ground := Ground.phase }, { on := 40, ground := Ground.phase }, { on := 41, ground := Ground.phase }], guard := none }) (v := .pointer (some ⟨AB, 7, none⟩)) rfl (by as_aux_lemma => kernel_rfl) (by as_aux_lemma => kernel_rfl) (by as_aux_lemma => kernel_rfl) (fun _ _ _ h => h) (Or.inl ⟨by rfl, ?_⟩) (by assumption) ?_
              · intro wq hSw
                go_simp
                try with_reducible rfl
              simp only [Act.put, List.setIfInBounds_toArray, List.set_cons_zero, List.set_cons_succ]
              refine wpAnyH_ready (rs := [44]) (by as_aux_lemma => kernel_rfl) (by simp) ?_
              refine AllReadyH.cons (o := { dst := none, op := Op.store 3 (Operand.tmp 163) (Operand.tmp 150), type := 0, pos := "ref.go:117", after := #[{ on := 43, ground := Ground.data }, { on := 23, ground := Ground.data }, { on := 41, ground := Ground.chain }, { on := 0, ground := Ground.phase }, { on := 1, ground := Ground.phase }, { on := 2, ground := Ground.phase }, { on := 3, ground := Ground.phase }, { on := 4, ground := Ground.phase }, { on := 5, ground := Ground.phase }, { on := 6, ground := Ground.phase }, { on := 7, ground := Ground.phase }, { on := 8, ground := Ground.phase }, { on := 9, ground := Ground.phase }, { on := 10, ground := Ground.phase }, { on := 11, ground := Ground.phase }, { on := 12, ground := Ground.phase }, { on := 13, ground := Ground.phase }, { on := 14, ground := Ground.phase }, { on := 15, ground := Ground.phase }, { on := 16, ground := Ground.phase }, { on := 17, ground := Ground.phase }, { on := 18, ground := Ground.phase }, { on := 19, ground := Ground.phase }, { on := 20, ground := Ground.phase }, { on := 21, ground := Ground.phase }, { on := 22, ground := Ground.phase }, { on := 23, ground := Ground.phase }, { on := 24, ground := Ground.phase }, { on := 25, ground := Ground.phase }, { on := 26, ground := Ground.phase }, { on := 27, ground := Ground.phase }, { on := 28, ground := Ground.phase }, { on := 29, ground := Ground.phase }, { on := 30, ground := Ground.phase }, { on := 31, ground := Ground.phase }, { on := 32, ground := Ground.phase }, { on := 33, ground := Ground.phase }, { on := 34, ground := Ground.phase }, { on := 35, ground := Ground.phase }, { on := 36, ground := Ground.phase }, { on := 37, ground := Ground.phase }, { on := 38, ground := Ground.phase }, { on := 39, ground := Ground.phase }, { on := 40, ground := Ground.phase }, { on := 41, ground := Ground.phase }], guard := none }) rfl (fun K2 hK => ?_) AllReadyH.nil
              have yc8 := hbA.cell 7 _ rfl
              have yf8 := hbA.frz 7
              go_simp
              clear yc8 yf8
              obtain ⟨V8, hV8⟩ : ∃ V8, V8 = (V7).setCell ⟨AB, 7, none⟩ (.int .i64 a7) := ⟨_, rfl⟩
              rw [← hV8]
              have hbB : Bl AB [.int .i64 1, .int .i64 a0, .int .i64 a1, .int .i64 a3, .int .i64 a2, .int .i64 a5, .int .i64 a6, .int .i64 a7, .int .i64 a4] V8 := by rw [hV8]; exact hbA.set 7 _
              have hd' : (Below w.heap.size w V8 ∧ Bl w.heap.size [.int .i64 0, .int .i64 0, .int .i64 0, .int .i64 0, .int .i64 0, .int .i64 0, .int .i64 0, .int .i64 0, .int .i64 0] V8 ∧ (V8.cell? ⟨g, 0, none⟩ = some (.int .i64 a0)) ∧ (V8.cell? ⟨g, 1, none⟩ = some (.int .i64 a1)) ∧ (V8.cell? ⟨g, 2, none⟩ = some (.int .i64 a2)) ∧ (V8.cell? ⟨g, 3, none⟩ = some (.int .i64 a3)) ∧ (V8.cell? ⟨g, 4, none⟩ = some (.int .i64 a4)) ∧ (V8.cell? ⟨g, 5, none⟩ = some (.int .i64 a5)) ∧ (V8.cell? ⟨g, 6, none⟩ = some (.int .i64 a6)) ∧ (V8.cell? ⟨g, 7, none⟩ = some (.int .i64 a7))) := by
                rw [hV8]
                exact ⟨hd.1.setCell (p := ⟨AB, 7, none⟩) (Nat.le_of_lt HLA.out.1) _, hd.2.1.far (p := ⟨AB, 7, none⟩) (by have := HLA.out.1; show AB ≠ w.heap.size; omega) _, (cell_far HLA.out.2 _ _ _).trans hd.2.2.1, (cell_far HLA.out.2 _ _ _).trans hd.2.2.2.1, (cell_far HLA.out.2 _ _ _).trans hd.2.2.2.2.1, (cell_far HLA.out.2 _ _ _).trans hd.2.2.2.2.2.1, (cell_far HLA.out.2 _ _ _).trans hd.2.2.2.2.2.2.1, (cell_far HLA.out.2 _ _ _).trans hd.2.2.2.2.2.2.2.1, (cell_far HLA.out.2 _ _ _).trans hd.2.2.2.2.2.2.2.2.1, (cell_far HLA.out.2 _ _ _).trans hd.2.2.2.2.2.2.2.2.2⟩
              clear hbA hd hV8
              have hbA := hbB
              have hd := hd'
              clear hbB hd'
              refine hK.out _ _ hd (fun hHeld => ?_)
              clear hK K2
              try simp only [Act.put, List.setIfInBounds_toArray, List.set_cons_zero, List.set_cons_succ]
              refine wpAnyH_done (by as_aux_lemma => kernel_rfl) ?_ _
              have HF := Lib.hid (And.intro hd.2.1 hd.1)
              have y0 := hbA.cell 0 _ rfl
              have y1 := hbA.cell 1 _ rfl
              have y2 := hbA.cell 2 _ rfl
              have y3 := hbA.cell 3 _ rfl
              have y4 := hbA.cell 4 _ rfl
              have y5 := hbA.cell 5 _ rfl
              have y6 := hbA.cell 6 _ rfl
              have y7 := hbA.cell 7 _ rfl
              have y8 := hbA.cell 8 _ rfl
              go_wp2_with (refine wpList_store_bl rfl 31 (.tmp 2) (.tmp 180) rfl w.heap.size [.int .i64 0, .int .i64 0, .int .i64 0, .int .i64 0, .int .i64 0, .int .i64 0, .int .i64 0, .int .i64 0, .int .i64 0] [.int .i64 1, .int .i64 a0, .int .i64 a1, .int .i64 a3, .int .i64 a2, .int .i64 a5, .int .i64 a6, .int .i64 a7, .int .i64 a4] rfl rfl HF.out.1 rfl (by kernel_rfl) rfl ?_; intro w8 hb8 hk8 hs8 hbel8; have HF8 := Lib.hid (And.intro hb8 (And.intro hk8 (And.intro hs8 hbel8))); clear hb8 hk8 hs8 hbel8)
              refine bodyPost_ret (results_three (ty := 31) rfl _ _ w.heap.size [.int .i64 1, .int .i64 a0, .int .i64 a1, .int .i64 a3, .int .i64 a2, .int .i64 a5, .int .i64 a6, .int .i64 a7, .int .i64 a4] _ _ _ rfl rfl rfl HF8.out.1 Tryd.underlying31 rfl (by kernel_rfl)) rfl ?_
              rw [HL.out]
              exact ⟨rfl, HF8.out.2.2.2 _ _ (Nat.le_refl _) HF.out.2⟩
            · skip
              have hLL : LL = tg 2 := HLL.out
              have hln : ns.length = 2 := HP.out.2.2.1.trans (HWL.out _ hLL)
              subst hLL
              obtain ⟨a0, a1, hns⟩ : ∃ a0 a1, ns = [a0, a1] := by
                match ns, hln with
                | [a0, a1], _ => exact ⟨a0, a1, rfl⟩
              subst hns
              have hcs : cs = [2, a0, a1, 0, 0, 0, 0, 0, 0] := HP.out.2.1
              subst hcs
              have HL : Hid (lp s = .ok [2, a0, a1, 0, 0, 0, 0, 0, 0]) := Lib.hid HP3.out
              have gA : Below wr.heap.size wr (wr.alloc (.cells (List.toArray [.int .i64 2, .int .i64 0, .int .i64 0, .int .i64 0, .int .i64 0, .int .i64 0, .int .i64 0, .int .i64 0, .int .i64 0]) 31)) := by go_grown
              have bA := Bl.new wr [.int .i64 2, .int .i64 0, .int .i64 0, .int .i64 0, .int .i64 0, .int .i64 0, .int .i64 0, .int .i64 0, .int .i64 0] 31
              obtain ⟨g, cap4, hv5, hg4, hg5⟩ := HM.out.1.form (by show 0 < 2; omega)
              injection hv5 with hv6 hv7 hv8
              subst hv6
              have hcl := HM.out.1.cells (g := g) rfl
              have hm0 : wr.cell? ⟨g, 0, none⟩ = some (.int .i64 a0) := hcl 0 _ rfl
              have hm1 : wr.cell? ⟨g, 1, none⟩ = some (.int .i64 a1) := hcl 1 _ rfl
              have hn0 := (gA.cell (p := ⟨g, 0, none⟩) hg5).trans hm0
              have hn1 := (gA.cell (p := ⟨g, 1, none⟩) hg5).trans hm1
              obtain ⟨AB, hAB⟩ : ∃ AB, AB = wr.heap.size := ⟨_, rfl⟩
              have HLA : Hid (w.heap.size < AB ∧ g ≠ AB) := Lib.hid (by rw [hAB]; exact ⟨HY.out.1.lt, by omega⟩)
              have HW0 := Lib.hid (And.intro (Below.step HY.out.2.2 gA) (HY.out.1.below gA))
              rw [← hAB] at bA
              have HBA := Lib.hid bA
              obtain ⟨W0, hW0⟩ : ∃ W0, W0 = wr.alloc (.cells (List.toArray [.int .i64 2, .int .i64 0, .int .i64 0, .int .i64 0, .int .i64 0, .int .i64 0, .int .i64 0, .int .i64 0, .int .i64 0]) 31) := ⟨_, rfl⟩
              rw [← hW0] at HW0 HBA hn0 hn1
              have HW0E := Lib.hid hW0
              have HABE := Lib.hid hAB
              clear gA bA hW0 hAB hv7 hv8 hg4 hcl hm0 hm1
              go_wp2_with fail
              rw [← HW0E.out, ← HABE.out]
              have gz1 : Below W0.heap.size W0 W0.drew := (Below.refl _ _).drew
              have hd : (Below w.heap.size w W0.drew ∧ Bl w.heap.size [.int .i64 0, .int .i64 0, .int .i64 0, .int .i64 0, .int .i64 0, .int .i64 0, .int .i64 0, .int .i64 0, .int .i64 0] W0.drew ∧ (W0.drew.cell? ⟨g, 0, none⟩ = some (.int .i64 a0)) ∧ (W0.drew.cell? ⟨g, 1, none⟩ = some (.int .i64 a1))) := ⟨HW0.out.1.drew, HW0.out.2, hn0, hn1⟩
              have hbA : Bl AB [.int .i64 2, .int .i64 0, .int .i64 0, .int .i64 0, .int .i64 0, .int .i64 0, .int .i64 0, .int .i64 0, .int .i64 0] W0.drew := HBA.out
              clear gz1
              go_wp2_with fail
              refine wp_region_held_drew (S := fun w' => Below w.heap.size w w' ∧ Bl w.heap.size [.int .i64 0, .int .i64 0, .int .i64 0, .int .i64 0, .int .i64 0, .int .i64 0, .int .i64 0, .int .i64 0, .int .i64 0] w' ∧ (w'.cell? ⟨g, 0, none⟩ = some (.int .i64 a0)) ∧ (w'.cell? ⟨g, 1, none⟩ = some (.int .i64 a1))) (by kernel_rfl) hd (fun hHeld => ?_)
              generalize W0.drew = V0 at hd hbA ⊢
              refine wpAnyH_take (i := 0) (oi := { dst := some 166, op := Op.move (Operand.tmp 10), type := 71, pos := "ref.go:119", after := #[], guard := none }) (v := .slice (some ⟨g, 0, none⟩) 2 c4) rfl (by as_aux_lemma => kernel_rfl) (by as_aux_lemma => kernel_rfl) (by as_aux_lemma => kernel_rfl) (fun _ _ _ h => h) (Or.inl ⟨by rfl, ?_⟩) (by assumption) ?_
              · intro wq hSw
                go_simp
                try with_reducible rfl
              simp only [Act.put, List.setIfInBounds_toArray, List.set_cons_zero, List.set_cons_succ]
              refine wpAnyH_take (i := 1) (oi := { dst := some 167, op := Op.indexAddr 71 (Operand.tmp 166) (Operand.const (Value.int IntKind.i64 0)), type := 0, pos := "ref.go:119", after := #[{ on := 0, ground := Ground.data }], guard := none }) (v := .pointer (some ⟨g, 0, none⟩)) rfl (by as_aux_lemma => kernel_rfl) (by as_aux_lemma => kernel_rfl) (by as_aux_lemma => kernel_rfl) (fun _ _ _ h => h) (Or.inl ⟨by rfl, ?_⟩) (by assumption) ?_
              · intro wq hSw
                go_simp
                try with_reducible rfl
              simp only [Act.put, List.setIfInBounds_toArray, List.set_cons_zero, List.set_cons_succ]
              refine wpAnyH_take (i := 2) (oi := { dst := some 168, op := Op.load 3 (Operand.tmp 167), type := 3, pos := "ref.go:119", after := #[{ on := 1, ground := Ground.data }], guard := none }) (v := .int .i64 a0) rfl (by as_aux_lemma => kernel_rfl) (by as_aux_lemma => kernel_rfl) (by as_aux_lemma => kernel_rfl) (fun _ _ _ h => h) (Or.inl ⟨by rfl, ?_⟩) (by assumption) ?_
              · intro wq hSw
                obtain ⟨s1, s2, r0, r1⟩ := hSw
                go_simp
                try with_reducible rfl
              simp only [Act.put, List.setIfInBounds_toArray, List.set_cons_zero, List.set_cons_succ]
              refine wpAnyH_take (i := 3) (oi := { dst := some 169, op := Op.move (Operand.tmp 10), type := 71, pos := "ref.go:119", after := #[{ on := 7, ground := Ground.gcOnly Departure.lateStores }], guard := none }) (v := .slice (some ⟨g, 0, none⟩) 2 c4) rfl (by as_aux_lemma => kernel_rfl) (by as_aux_lemma => kernel_rfl) (by as_aux_lemma => kernel_rfl) (fun _ _ _ h => h) (Or.inl ⟨by rfl, ?_⟩) (by assumption) ?_
              · intro wq hSw
                go_simp
                try with_reducible rfl
              simp only [Act.put, List.setIfInBounds_toArray, List.set_cons_zero, List.set_cons_succ]
              refine wpAnyH_take (i := 4) (oi := { dst := some 170, op := Op.indexAddr 71 (Operand.tmp 169) (Operand.const (Value.int IntKind.i64 1)), type := 0, pos := "ref.go:119", after := #[{ on := 3, ground := Ground.data }, { on := 7, ground := Ground.gcOnly Departure.lateStores }], guard := none }) (v := .pointer (some ⟨g, 1, none⟩)) rfl (by as_aux_lemma => kernel_rfl) (by as_aux_lemma => kernel_rfl) (by as_aux_lemma => kernel_rfl) (fun _ _ _ h => h) (Or.inl ⟨by rfl, ?_⟩) (by assumption) ?_
              · intro wq hSw
                go_simp
                try with_reducible rfl
              simp only [Act.put, List.setIfInBounds_toArray, List.set_cons_zero, List.set_cons_succ]
              refine wpAnyH_take (i := 5) (oi := { dst := some 171, op := Op.load 3 (Operand.tmp 170), type := 3, pos := "ref.go:119", after := #[{ on := 4, ground := Ground.data }, { on := 7, ground := Ground.gcOnly Departure.lateStores }], guard := none }) (v := .int .i64 a1) rfl (by as_aux_lemma => kernel_rfl) (by as_aux_lemma => kernel_rfl) (by as_aux_lemma => kernel_rfl) (fun _ _ _ h => h) (Or.inl ⟨by rfl, ?_⟩) (by assumption) ?_
              · intro wq hSw
                obtain ⟨s1, s2, r0, r1⟩ := hSw
                go_simp
                try with_reducible rfl
              simp only [Act.put, List.setIfInBounds_toArray, List.set_cons_zero, List.set_cons_succ]
              refine wpAnyH_take (i := 6) (oi := { dst := some 172, op := Op.fieldAddr 31 (Operand.tmp 16) 1, type := 0, pos := "ref.go:119", after := #[{ on := 0, ground := Ground.phase }, { on := 1, ground := Ground.phase }, { on := 2, ground := Ground.phase }, { on := 3, ground := Ground.textOnly Departure.lateStores }, { on := 4, ground := Ground.textOnly Departure.lateStores }, { on := 5, ground := Ground.textOnly Departure.lateStores }], guard := none }) (v := .pointer (some ⟨AB, 1, none⟩)) rfl (by as_aux_lemma => kernel_rfl) (by as_aux_lemma => kernel_rfl) (by as_aux_lemma => kernel_rfl) (fun _ _ _ h => h) (Or.inl ⟨by rfl, ?_⟩) (by assumption) ?_
              · intro wq hSw
                go_simp
                try with_reducible rfl
              simp only [Act.put, List.setIfInBounds_toArray, List.set_cons_zero, List.set_cons_succ]
              refine wpAnyH_ready (rs := [7]) (by as_aux_lemma => kernel_rfl) (by simp) ?_
              refine AllReadyH.cons (o := { dst := none, op := Op.store 3 (Operand.tmp 172) (Operand.tmp 168), type := 0, pos := "ref.go:119", after := #[{ on := 6, ground := Ground.data }, { on := 2, ground := Ground.data }, { on := 0, ground := Ground.phase }, { on := 1, ground := Ground.phase }, { on := 2, ground := Ground.phase }, { on := 3, ground := Ground.textOnly Departure.lateStores }, { on := 4, ground := Ground.textOnly Departure.lateStores }, { on := 5, ground := Ground.textOnly Departure.lateStores }], guard := none }) rfl (fun K2 hK => ?_) AllReadyH.nil
              have yc1 := hbA.cell 1 _ rfl
              have yf1 := hbA.frz 1
              go_simp
              clear yc1 yf1
              obtain ⟨V1, hV1⟩ : ∃ V1, V1 = (V0).setCell ⟨AB, 1, none⟩ (.int .i64 a0) := ⟨_, rfl⟩
              rw [← hV1]
              have hbB : Bl AB [.int .i64 2, .int .i64 a0, .int .i64 0, .int .i64 0, .int .i64 0, .int .i64 0, .int .i64 0, .int .i64 0, .int .i64 0] V1 := by rw [hV1]; exact hbA.set 1 _
              have hd' : (Below w.heap.size w V1 ∧ Bl w.heap.size [.int .i64 0, .int .i64 0, .int .i64 0, .int .i64 0, .int .i64 0, .int .i64 0, .int .i64 0, .int .i64 0, .int .i64 0] V1 ∧ (V1.cell? ⟨g, 0, none⟩ = some (.int .i64 a0)) ∧ (V1.cell? ⟨g, 1, none⟩ = some (.int .i64 a1))) := by
                rw [hV1]
                exact ⟨hd.1.setCell (p := ⟨AB, 1, none⟩) (Nat.le_of_lt HLA.out.1) _, hd.2.1.far (p := ⟨AB, 1, none⟩) (by have := HLA.out.1; show AB ≠ w.heap.size; omega) _, (cell_far HLA.out.2 _ _ _).trans hd.2.2.1, (cell_far HLA.out.2 _ _ _).trans hd.2.2.2⟩
              clear hbA hd hV1
              have hbA := hbB
              have hd := hd'
              clear hbB hd'
              refine hK.out _ _ hd (fun hHeld => ?_)
              clear hK K2
              try simp only [Act.put, List.setIfInBounds_toArray, List.set_cons_zero, List.set_cons_succ]
              refine wpAnyH_take (i := 8) (oi := { dst := some 173, op := Op.fieldAddr 31 (Operand.tmp 16) 2, type := 0, pos := "ref.go:119", after := #[{ on := 0, ground := Ground.phase }, { on := 1, ground := Ground.phase }, { on := 2, ground := Ground.phase }, { on := 3, ground := Ground.phase }, { on := 4, ground := Ground.phase }, { on := 5, ground := Ground.phase }, { on := 6, ground := Ground.phase }, { on := 7, ground := Ground.phase }], guard := none }) (v := .pointer (some ⟨AB, 2, none⟩)) rfl (by as_aux_lemma => kernel_rfl) (by as_aux_lemma => kernel_rfl) (by as_aux_lemma => kernel_rfl) (fun _ _ _ h => h) (Or.inl ⟨by rfl, ?_⟩) (by assumption) ?_
              · intro wq hSw
                go_simp
                try with_reducible rfl
              simp only [Act.put, List.setIfInBounds_toArray, List.set_cons_zero, List.set_cons_succ]
              refine wpAnyH_ready (rs := [9]) (by as_aux_lemma => kernel_rfl) (by simp) ?_
              refine AllReadyH.cons (o := { dst := none, op := Op.store 3 (Operand.tmp 173) (Operand.tmp 171), type := 0, pos := "ref.go:119", after := #[{ on := 8, ground := Ground.data }, { on := 5, ground := Ground.data }, { on := 7, ground := Ground.chain }, { on := 0, ground := Ground.phase }, { on := 1, ground := Ground.phase }, { on := 2, ground := Ground.phase }, { on := 3, ground := Ground.phase }, { on := 4, ground := Ground.phase }, { on := 5, ground := Ground.phase }, { on := 6, ground := Ground.phase }, { on := 7, ground := Ground.phase }], guard := none }) rfl (fun K2 hK => ?_) AllReadyH.nil
              have yc2 := hbA.cell 2 _ rfl
              have yf2 := hbA.frz 2
              go_simp
              clear yc2 yf2
              obtain ⟨V2, hV2⟩ : ∃ V2, V2 = (V1).setCell ⟨AB, 2, none⟩ (.int .i64 a1) := ⟨_, rfl⟩
              rw [← hV2]
              have hbB : Bl AB [.int .i64 2, .int .i64 a0, .int .i64 a1, .int .i64 0, .int .i64 0, .int .i64 0, .int .i64 0, .int .i64 0, .int .i64 0] V2 := by rw [hV2]; exact hbA.set 2 _
              have hd' : (Below w.heap.size w V2 ∧ Bl w.heap.size [.int .i64 0, .int .i64 0, .int .i64 0, .int .i64 0, .int .i64 0, .int .i64 0, .int .i64 0, .int .i64 0, .int .i64 0] V2 ∧ (V2.cell? ⟨g, 0, none⟩ = some (.int .i64 a0)) ∧ (V2.cell? ⟨g, 1, none⟩ = some (.int .i64 a1))) := by
                rw [hV2]
                exact ⟨hd.1.setCell (p := ⟨AB, 2, none⟩) (Nat.le_of_lt HLA.out.1) _, hd.2.1.far (p := ⟨AB, 2, none⟩) (by have := HLA.out.1; show AB ≠ w.heap.size; omega) _, (cell_far HLA.out.2 _ _ _).trans hd.2.2.1, (cell_far HLA.out.2 _ _ _).trans hd.2.2.2⟩
              clear hbA hd hV2
              have hbA := hbB
              have hd := hd'
              clear hbB hd'
              refine hK.out _ _ hd (fun hHeld => ?_)
              clear hK K2
              try simp only [Act.put, List.setIfInBounds_toArray, List.set_cons_zero, List.set_cons_succ]
              refine wpAnyH_done (by as_aux_lemma => kernel_rfl) ?_ _
              have HF := Lib.hid (And.intro hd.2.1 hd.1)
              have y0 := hbA.cell 0 _ rfl
              have y1 := hbA.cell 1 _ rfl
              have y2 := hbA.cell 2 _ rfl
              have y3 := hbA.cell 3 _ rfl
              have y4 := hbA.cell 4 _ rfl
              have y5 := hbA.cell 5 _ rfl
              have y6 := hbA.cell 6 _ rfl
              have y7 := hbA.cell 7 _ rfl
              have y8 := hbA.cell 8 _ rfl
              go_wp2_with (refine wpList_store_bl rfl 31 (.tmp 2) (.tmp 180) rfl w.heap.size [.int .i64 0, .int .i64 0, .int .i64 0, .int .i64 0, .int .i64 0, .int .i64 0, .int .i64 0, .int .i64 0, .int .i64 0] [.int .i64 2, .int .i64 a0, .int .i64 a1, .int .i64 0, .int .i64 0, .int .i64 0, .int .i64 0, .int .i64 0, .int .i64 0] rfl rfl HF.out.1 rfl (by kernel_rfl) rfl ?_; intro w8 hb8 hk8 hs8 hbel8; have HF8 := Lib.hid (And.intro hb8 (And.intro hk8 (And.intro hs8 hbel8))); clear hb8 hk8 hs8 hbel8)
              refine bodyPost_ret (results_three (ty := 31) rfl _ _ w.heap.size [.int .i64 2, .int .i64 a0, .int .i64 a1, .int .i64 0, .int .i64 0, .int .i64 0, .int .i64 0, .int .i64 0, .int .i64 0] _ _ _ rfl rfl rfl HF8.out.1 Tryd.underlying31 rfl (by kernel_rfl)) rfl ?_
              rw [HL.out]
              exact ⟨rfl, HF8.out.2.2.2 _ _ (Nat.le_refl _) HF.out.2⟩
            · skip
              have hLL : LL = tg 3 := HLL.out
              have hln : ns.length = 1 := HP.out.2.2.1.trans (HWL.out _ hLL)
              subst hLL
              obtain ⟨a0, hns⟩ : ∃ a0, ns = [a0] := by
                match ns, hln with
                | [a0], _ => exact ⟨a0, rfl⟩
              subst hns
              have hcs : cs = [3, 0, a0, 0, 0, 0, 0, 0, 0] := HP.out.2.1
              subst hcs
              have HL : Hid (lp s = .ok [3, 0, a0, 0, 0, 0, 0, 0, 0]) := Lib.hid HP3.out
              have gA : Below wr.heap.size wr (wr.alloc (.cells (List.toArray [.int .i64 3, .int .i64 0, .int .i64 0, .int .i64 0, .int .i64 0, .int .i64 0, .int .i64 0, .int .i64 0, .int .i64 0]) 31)) := by go_grown
              have bA := Bl.new wr [.int .i64 3, .int .i64 0, .int .i64 0, .int .i64 0, .int .i64 0, .int .i64 0, .int .i64 0, .int .i64 0, .int .i64 0] 31
              obtain ⟨g, cap4, hv5, hg4, hg5⟩ := HM.out.1.form (by show 0 < 1; omega)
              injection hv5 with hv6 hv7 hv8
              subst hv6
              have hcl := HM.out.1.cells (g := g) rfl
              have hm0 : wr.cell? ⟨g, 0, none⟩ = some (.int .i64 a0) := hcl 0 _ rfl
              have hn0 := (gA.cell (p := ⟨g, 0, none⟩) hg5).trans hm0
              have HLA : Hid (w.heap.size < wr.heap.size ∧ g ≠ wr.heap.size) := Lib.hid (⟨HY.out.1.lt, by omega⟩)
              have HW0 := Lib.hid (And.intro (Below.step HY.out.2.2 gA) (HY.out.1.below gA))
              have HBA := Lib.hid bA
              clear gA bA hv7 hv8 hg4 hcl hm0
              have yc := HBA.out.cell 2 _ rfl
              have yf := HBA.out.frz 2
              have gA2 : Below wr.heap.size wr (wr.alloc (.cells (List.toArray [.int .i64 3, .int .i64 0, .int .i64 a0, .int .i64 0, .int .i64 0, .int .i64 0, .int .i64 0, .int .i64 0, .int .i64 0]) 31)) := by go_grown
              have HF := Lib.hid (And.intro (HY.out.1.below gA2) (Below.step HY.out.2.2 gA2))
              clear gA2
              have y0 := HBA.out.cell 0 _ rfl
              have y1 := HBA.out.cell 1 _ rfl
              have y3 := HBA.out.cell 3 _ rfl
              have y4 := HBA.out.cell 4 _ rfl
              have y5 := HBA.out.cell 5 _ rfl
              have y6 := HBA.out.cell 6 _ rfl
              have y7 := HBA.out.cell 7 _ rfl
              have y8 := HBA.out.cell 8 _ rfl
              go_wp2_with (refine wpList_store_bl rfl 31 (.tmp 2) (.tmp 180) rfl w.heap.size [.int .i64 0, .int .i64 0, .int .i64 0, .int .i64 0, .int .i64 0, .int .i64 0, .int .i64 0, .int .i64 0, .int .i64 0] [.int .i64 3, .int .i64 0, .int .i64 a0, .int .i64 0, .int .i64 0, .int .i64 0, .int .i64 0, .int .i64 0, .int .i64 0] rfl rfl HF.out.1 rfl (by kernel_rfl) rfl ?_; intro w8 hb8 hk8 hs8 hbel8; have HF8 := Lib.hid (And.intro hb8 (And.intro hk8 (And.intro hs8 hbel8))); clear hb8 hk8 hs8 hbel8)
              refine bodyPost_ret (results_three (ty := 31) rfl _ _ w.heap.size [.int .i64 3, .int .i64 0, .int .i64 a0, .int .i64 0, .int .i64 0, .int .i64 0, .int .i64 0, .int .i64 0, .int .i64 0] _ _ _ rfl rfl rfl HF8.out.1 Tryd.underlying31 rfl (by kernel_rfl)) rfl ?_
              rw [HL.out]
              exact ⟨rfl, HF8.out.2.2.2 _ _ (Nat.le_refl _) HF.out.2⟩
            · skip
              have hLL : LL = tg 4 := HLL.out
              have hln : ns.length = 0 := HP.out.2.2.1.trans (HWL.out _ hLL)
              subst hLL
              obtain rfl : ns = [] := List.eq_nil_of_length_eq_zero hln
              have hcs : cs = [4, 0, 0, 0, 0, 0, 0, 0, 0] := HP.out.2.1
              subst hcs
              have HL : Hid (lp s = .ok [4, 0, 0, 0, 0, 0, 0, 0, 0]) := Lib.hid HP3.out
              have gA : Below wr.heap.size wr (wr.alloc (.cells (List.toArray [.int .i64 4, .int .i64 0, .int .i64 0, .int .i64 0, .int .i64 0, .int .i64 0, .int .i64 0, .int .i64 0, .int .i64 0]) 31)) := by go_grown
              have bA := Bl.new wr [.int .i64 4, .int .i64 0, .int .i64 0, .int .i64 0, .int .i64 0, .int .i64 0, .int .i64 0, .int .i64 0, .int .i64 0] 31
              have HLA : Hid (w.heap.size < wr.heap.size ) := Lib.hid (HY.out.1.lt)
              have HW0 := Lib.hid (And.intro (Below.step HY.out.2.2 gA) (HY.out.1.below gA))
              have HBA := Lib.hid bA
              clear gA bA
              have HF := Lib.hid (And.intro HW0.out.2 HW0.out.1)
              have y0 := HBA.out.cell 0 _ rfl
              have y1 := HBA.out.cell 1 _ rfl
              have y2 := HBA.out.cell 2 _ rfl
              have y3 := HBA.out.cell 3 _ rfl
              have y4 := HBA.out.cell 4 _ rfl
              have y5 := HBA.out.cell 5 _ rfl
              have y6 := HBA.out.cell 6 _ rfl
              have y7 := HBA.out.cell 7 _ rfl
              have y8 := HBA.out.cell 8 _ rfl
              go_wp2_with (refine wpList_store_bl rfl 31 (.tmp 2) (.tmp 180) rfl w.heap.size [.int .i64 0, .int .i64 0, .int .i64 0, .int .i64 0, .int .i64 0, .int .i64 0, .int .i64 0, .int .i64 0, .int .i64 0] [.int .i64 4, .int .i64 0, .int .i64 0, .int .i64 0, .int .i64 0, .int .i64 0, .int .i64 0, .int .i64 0, .int .i64 0] rfl rfl HF.out.1 rfl (by kernel_rfl) rfl ?_; intro w8 hb8 hk8 hs8 hbel8; have HF8 := Lib.hid (And.intro hb8 (And.intro hk8 (And.intro hs8 hbel8))); clear hb8 hk8 hs8 hbel8)
              refine bodyPost_ret (results_three (ty := 31) rfl _ _ w.heap.size [.int .i64 4, .int .i64 0, .int .i64 0, .int .i64 0, .int .i64 0, .int .i64 0, .int .i64 0, .int .i64 0, .int .i64 0] _ _ _ rfl rfl rfl HF8.out.1 Tryd.underlying31 rfl (by kernel_rfl)) rfl ?_
              rw [HL.out]
              exact ⟨rfl, HF8.out.2.2.2 _ _ (Nat.le_refl _) HF.out.2⟩

end Go.Proofs.YtnppopeoloigeaaDoor

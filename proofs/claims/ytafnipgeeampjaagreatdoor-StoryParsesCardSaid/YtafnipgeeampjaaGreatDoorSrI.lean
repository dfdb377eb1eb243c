/-
  What the document says of a word.
-/
import Derived.Test.YtafnipgeeampjaaGreatDoorRows
import Derived.Test.YtafnipgeeampjaaGreatDoorKit
import Derived.Test.YtafnipgeeampjaaGreatDoorApp
import Derived.Test.YtafnipgeeampjaaGreatDoorQuiet
import Derived.WalkKit
import Derived.ProofKit
import Derived.OpenShut
import Derived.ShutString
import Derived.Below
import Derived.Outline
import Derived.WalkLawsBesides
import Derived.WalkSpells
import Derived.Handy
import Derived.Deep.QuietTactic
import Derived.BigQuiet
import Derived.RegionTactic
import Derived.ChangeAlike
import Derived.Lib.Hide
import Derived.Laws.Rows
import Derived.Laws.Tables
import Derived.Laws.CopyOwn
import Derived.Laws.MakeOwn
import Derived.Laws.Entries
import Derived.Laws.OwnMore
import Derived.Deep.WholeRow
import Derived.Deep.LoopGhost
import Derived.Deep.AppendLies
import Derived.Deep.Draws
import Derived.Maps.AppendAt
import Derived.OwnWalk
import Derived.Deep.RegionHeld3
import Derived.Deep.Cut
import Derived.Deep.CutRange
import Derived.Deep.DeepCutAuto
import Derived.Deep.CutBlock
import Derived.Lib.SliceRun
import Derived.IntWalk
import Derived.Laws.Strings
import Derived.Lib.Bytealg
import Derived.Lib.Strings
import Derived.Laws.Externs
import Derived.Test.YtafnipgeeampjaaGreatDoorSrA
namespace Go.Proofs.YtafnipgeeampjaaGreatDoor
open Go.ChangeShapes Go.WideShapes Go.ChangeAt Go.RowKit
/-- What the document's Num says: a number, if it is one; whether it is. -/
def NumIs (l : List UInt8) (w : World) (e : Ending) (w' : World) : Prop := ∃ x : Int, e = .returned (.tuple #[.int .i64 x, .bool (digs l)]) ∧ (digs l = true → x = (nv l : Int)) ∧ Below w.heap.size w w'
theorem nv_small (l : List UInt8) (h : l.length ≤ 7) (ha : l.all dig = true) : nv l < 10000000 := Nat.lt_of_lt_of_le (nv_lt l ha) (Nat.le_trans (Nat.pow_le_pow_right (by decide) h) (by decide))
theorem bs_eq (a b : List UInt8) : ((Bs a).toList == (Bs b).toList) = (a == b) := by
  rw [ByteArray.toList_eq, ByteArray.toList_eq, Bs_list, Bs_list]
set_option maxRecDepth 100000 in
set_option maxHeartbeats 2000000 in
theorem num_is (s : ByteArray) (hs : s.size ≤ 100000) (w : World) : Calls Tryz.prog 35 #[.string s] w (NumIs s.data.toList w) := by
  have hlen := size_len s
  by_cases h0 : s.size = 0
  · have hd : digs s.data.toList = false := by unfold digs; rw [hlen, h0]; simp
    have HD := Lib.hid hd
    have g0 : (s.size : Int) = 0 := by omega
    clear hd h0 hlen
    go_enter Tryz.func35, Tryz.ntmps35
    go_wp2_with fail
    go_ret2
    refine ⟨0, ?_, fun h => ?_, Below.refl _ _⟩
    · rw [HD.out]; rfl
    · rw [HD.out] at h; cases h
  by_cases h7 : 7 < s.size
  · have hd : digs s.data.toList = false := by unfold digs; rw [hlen, decide_eq_false (show ¬ s.size ≤ 7 by omega)]; simp
    have HD := Lib.hid hd
    have g0 : ((s.size : Int) == 0) = false := beq_eq_false_iff_ne.2 (by omega)
    have g7 : (7 : Int) < (s.size : Int) := by omega
    clear hd h7 h0 hlen
    go_enter Tryz.func35, Tryz.ntmps35
    go_wp2_with fail
    go_ret2
    refine ⟨0, ?_, fun h => ?_, Below.refl _ _⟩
    · rw [HD.out]; rfl
    · rw [HD.out] at h; cases h
  have g0 : ((s.size : Int) == 0) = false := beq_eq_false_iff_ne.2 (by omega)
  have n7 : decide ((7 : Int) < (s.size : Int)) = false := decide_eq_false (by omega)
  have HS := Lib.hid hlen
  have H7 := Lib.hid (show s.size ≤ 7 by omega)
  have HP := Lib.hid (show 0 < s.size by omega)
  have hs7 : (s.size : Int) ≤ 7 := by omega
  clear h7 h0 hlen
  go_enter Tryz.func35, Tryz.ntmps35
  go_wp2_with fail
  go_loopw [4, 5] (fun v j wr => ∃ k : Nat, k ≤ s.size ∧ j = .int .i64 (k : Int) ∧ v = .int .i64 (nv (s.data.toList.take k) : Int) ∧ Hid ((s.data.toList.take k).all dig = true) ∧ w = wr) (fun _ j _ => s.size + 1 - (intOf j).toNat)
  case atStart => exact ⟨0, Nat.zero_le _, rfl, rfl, Lib.hid rfl, rfl⟩
  case round =>
    obtain ⟨k, hk, rfl, rfl, HALL, rfl⟩ := hrel
    have k0 : (0 : Int) ≤ (k : Int) := by omega
    have HNS := Lib.hid (nv_small _ (by rw [List.length_take]; have := H7.out; omega) HALL.out)
    by_cases hlt : k < s.size
    · obtain ⟨B, hB⟩ : ∃ B, B = s[k]'hlt := ⟨_, rfl⟩
      have hsk : s[k]'hlt = B := hB.symm
      have hgd : s.data.toList.getD k 0 = B := by rw [hB]; exact (get_bt s k hlt).symm
      have q1 : (k : Int) < (s.size : Int) := by omega
      have hat := all_take s.data.toList k (by rw [HS.out]; exact hlt)
      have hmi := all_miss s.data.toList k (by rw [HS.out]; exact hlt)
      have hst := nv_step s.data.toList k (by rw [HS.out]; exact hlt) HALL.out
      rw [hgd] at hat hmi hst
      have HMI := Lib.hid hmi
      have HAT := Lib.hid hat
      have Hk := Lib.hid hlt
      by_cases hd : dig B = true
      · have HDG := Lib.hid hd
        have d1 : 48 ≤ B.toNat ∧ B.toNat ≤ 57 := by unfold dig at hd; rw [Bool.and_eq_true, decide_eq_true_eq, decide_eq_true_eq] at hd; exact hd
        have e1 : decide ((B.toNat : Int) < 48) = false := decide_eq_false (by omega)
        have e2 : decide ((57 : Int) < (B.toNat : Int)) = false := decide_eq_false (by omega)
        have hall' : (s.data.toList.take (k + 1)).all dig = true := by rw [HAT.out, HALL.out, HDG.out]; rfl
        have HALL' := Lib.hid hall'
        have hst' := hst hd
        have hns' := nv_small _ (by rw [List.length_take]; have := H7.out; omega) hall'
        have HST := Lib.hid (And.intro hst' hns')
        generalize hN : nv (s.data.toList.take k) = N at *
        have n1 : N < 10000000 := HNS.out
        have b1 : 48 ≤ B.toNat := d1.1
        have b2 : B.toNat ≤ 57 := d1.2
        have m1 : N * 10 + (B.toNat - 48) < 10000000 := by rw [hst'] at hns'; exact hns'
        clear hd d1 hat hmi hst hall' hst' hns' hgd hB hk hN
        go_wp2_with fail
        go_roundw
        case rel => exact ⟨k + 1, Hk.out, by go_num, by rw [HST.out.1]; go_num, HALL', by first | rfl | trivial⟩
        case measure => have := Hk.out; simp [intOf]; omega
      · have hf : dig B = false := by simpa using hd
        have HF : Hid (digs s.data.toList = false) := Lib.hid (by
          have ha := HMI.out hf
          unfold digs
          rw [ha]; simp)
        have d1 : (B.toNat : Int) < 48 ∨ (57 : Int) < (B.toNat : Int) := by
          by_cases h4 : B.toNat < 48
          · exact .inl (by omega)
          · by_cases h5 : 57 < B.toNat
            · exact .inr (by omega)
            · unfold dig at hf
              rw [decide_eq_true (show 48 ≤ B.toNat by omega), decide_eq_true (show B.toNat ≤ 57 by omega)] at hf
              cases hf
        clear hd hf hat hmi hst hgd hB hk
        rcases d1 with d1 | d1
        · go_wp2_with fail
          go_ret2
          refine ⟨0, ?_, fun h => ?_, Below.refl _ _⟩
          · rw [HF.out]; rfl
          · rw [HF.out] at h; cases h
        · have e1 : decide ((B.toNat : Int) < 48) = false := decide_eq_false (by omega)
          go_wp2_with fail
          go_ret2
          refine ⟨0, ?_, fun h => ?_, Below.refl _ _⟩
          · rw [HF.out]; rfl
          · rw [HF.out] at h; cases h
    · have hke : k = s.size := by omega
      have hfin : s.data.toList.all dig = true := by have := HALL.out; rw [hke, ← HS.out, List.take_length] at this; exact this
      have hn : s.data.toList.take k = s.data.toList := by rw [hke, ← HS.out, List.take_length]
      rw [hn] at HNS ⊢
      have HDI := Lib.hid (digs_iff s.data.toList (by rw [HS.out]; exact HP.out) (by rw [HS.out]; exact H7.out) hfin)
      have HDC := Lib.hid (fun w => decimal_is (nv s.data.toList) (by have := HNS.out; omega) w)
      have hbq := bs_eq (dcl (nv s.data.toList)) s.data.toList
      rw [Bs_of, ← HDI.out] at hbq
      have HBQ := Lib.hid hbq
      clear hbq
      clear hfin hlt hk hn HALL
      subst hke
      go_wp2_with fail
      refine (HDC.out _).mono ?_
      rintro e w1 ⟨rfl, hb⟩
      go_wp2_with fail
      go_ret2
      refine ⟨(nv s.data.toList : Int), ?_, fun _ => rfl, hb⟩
      rw [← HBQ.out]; rfl

end Go.Proofs.YtafnipgeeampjaaGreatDoor

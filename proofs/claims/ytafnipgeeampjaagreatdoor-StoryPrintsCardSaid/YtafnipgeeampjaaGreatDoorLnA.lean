/-
  Words of a line: bytes, digits, what a blank parts.
-/
import Derived.Test.YtafnipgeeampjaaGreatDoorRows
import Derived.Test.YtafnipgeeampjaaGreatDoorKit
import Derived.Test.YtafnipgeeampjaaGreatDoorApp
import Derived.Test.YtafnipgeeampjaaGreatDoorQuiet
import Derived.WalkKit
import Derived.ProofKit
import Derived.OpenShut
import Derived.ShutString
import Derived.Below
import Derived.Outline
import Derived.WalkLawsBesides
import Derived.WalkSpells
import Derived.Handy
import Derived.Deep.QuietTactic
import Derived.BigQuiet
import Derived.RegionTactic
import Derived.ChangeAlike
import Derived.Lib.Hide
import Derived.Laws.Rows
import Derived.Laws.Tables
import Derived.Laws.CopyOwn
import Derived.Laws.MakeOwn
import Derived.Laws.Entries
import Derived.Laws.OwnMore
import Derived.Deep.WholeRow
import Derived.Deep.LoopGhost
import Derived.Deep.AppendLies
import Derived.Deep.Draws
import Derived.Maps.AppendAt
import Derived.OwnWalk
import Derived.Deep.RegionHeld3
import Derived.Deep.Cut
import Derived.Deep.CutRange
import Derived.Deep.DeepCutAuto
import Derived.Deep.CutBlock
import Derived.Lib.SliceRun
import Derived.IntWalk
import Derived.Laws.Strings
namespace Go.Proofs.YtafnipgeeampjaaGreatDoor
open Go.ChangeShapes Go.WideShapes Go.ChangeAt Go.RowKit
/-- A string's byte at a place. -/
def bt (s : ByteArray) (k : Nat) : Int := ((s.data.toList.getD k 0).toNat : Int)
theorem bt_bd (s : ByteArray) (k : Nat) : 0 ≤ bt s k ∧ bt s k ≤ 255 := by
  unfold bt
  have := (s.data.toList.getD k 0).toNat_lt
  omega
theorem size_len (s : ByteArray) : s.data.toList.length = s.size := Array.length_toList
theorem run_bt (s : ByteArray) (k : Nat) (hk : k < s.size) (w : World) : (Instr.index 9 (.string s) (.int .i64 (k : Int))).run Tryz.prog w = .ok (.int .u8 (bt s k)) w := by
  rw [run_index_string w 9 s .i64 (k : Int) Tryz.underlying9]
  have hi : 0 ≤ (k : Int) ∧ (k : Int) < s.size := by omega
  rw [dif_pos hi]
  unfold bt
  have : s[((k : Int).toNat)]'(by omega) = s.data.toList.getD k 0 := by
    simp [List.getD, Int.toNat_natCast]
    show s.data[k] = _
    rw [Array.getElem?_eq_getElem hk]
    rfl
  rw [this]
theorem get_bt (s : ByteArray) (k : Nat) (hk : k < s.size) : s[k] = s.data.toList.getD k 0 := by
  have e : s.data.toList.getD k 0 = s.data[k]?.getD 0 := by simp [List.getD]
  rw [e]
  show s.data[k] = _
  rw [Array.getElem?_eq_getElem hk]
  rfl
def dig (b : UInt8) : Bool := decide (48 ≤ b.toNat) && decide (b.toNat ≤ 57)
/-- A word that is a number. -/
def digs (l : List UInt8) : Bool := decide (0 < l.length) && (decide (l.length ≤ 7) && (!(l.getD 0 0 == 48 && decide (1 < l.length)) && l.all dig))
theorem not_empty (s : ByteArray) (h : 0 < s.size) : s.toList.isEmpty = false := by
  rw [ByteArray.toList_eq]
  rcases e : s.data.toList with _ | ⟨a, t⟩
  · have := size_len s
    rw [e] at this
    simp at this
    omega
  · rfl
theorem all_take (l : List UInt8) (k : Nat) (h : k < l.length) : (l.take (k + 1)).all dig = ((l.take k).all dig && dig (l.getD k 0)) := by
  rw [List.take_add_one, List.getElem?_eq_getElem h, List.all_append]
  simp [List.getD, List.getElem?_eq_getElem h]
theorem all_miss (l : List UInt8) (k : Nat) (h : k < l.length) (hd : dig (l.getD k 0) = false) : l.all dig = false := by
  rw [← List.take_append_drop (k + 1) l, List.all_append, all_take l k h, hd]
  simp
set_option maxHeartbeats 2000000 in
theorem digits_is (s : ByteArray) (hs : s.size ≤ 100000) (w : World) : Calls Tryz.prog 54 #[.string s] w fun e w' => e = .returned (.bool (digs s.data.toList)) ∧ w = w' := by
  have hlen := size_len s
  by_cases h0 : s.size = 0
  · have hz : s = ⟨#[]⟩ := by
      cases s with | mk d => simp [ByteArray.size] at h0; simp [h0]
    subst hz
    clear hs h0 hlen
    go_enter Tryz.func54, Tryz.ntmps54
    go_wp2_with fail
    go_ret
    exact ⟨rfl, rfl⟩
  have h1 : 0 < s.size := by omega
  have hE := not_empty s h1
  by_cases h7 : 7 < s.size
  · have hd : digs s.data.toList = false := by unfold digs; rw [hlen, decide_eq_false (show ¬ s.size ≤ 7 by omega)]; simp
    have HD := Lib.hid hd
    have g7 : (7 : Int) < (s.size : Int) := by omega
    clear hd h7 hlen h0 h1
    go_enter Tryz.func54, Tryz.ntmps54
    go_wp2_with fail
    go_ret
    exact ⟨by rw [HD.out]; rfl, rfl⟩
  have n7 : decide ((7 : Int) < (s.size : Int)) = false := decide_eq_false (by omega)
  have hb0 := run_bt s 0 h1
  rw [show ((0 : Nat) : Int) = 0 from rfl] at hb0
  by_cases hz : bt s 0 = 48 ∧ 1 < s.size
  · have hd : digs s.data.toList = false := by
      unfold digs
      have e : (s.data.toList.getD 0 0 == 48) = true := by
        have := hz.1
        unfold bt at this
        rw [beq_iff_eq]
        exact UInt8.toNat_inj.1 (by simpa using (by omega : (s.data.toList.getD 0 0).toNat = 48))
      rw [e, hlen, decide_eq_true hz.2]; simp
    have HD := Lib.hid hd
    have e48 : (bt s 0 == 48) = true := by rw [hz.1]; rfl
    have g1 : (1 : Int) < (s.size : Int) := by have := hz.2; omega
    clear hd hlen h0 h1 h7 hz
    go_enter Tryz.func54, Tryz.ntmps54
    go_wp2_with fail
    go_ret
    exact ⟨by rw [HD.out]; rfl, rfl⟩
  have hnz : (s.data.toList.getD 0 0 == 48 && decide (1 < s.size)) = false := by
    by_cases h : 1 < s.size
    · have : (s.data.toList.getD 0 0 == 48) = false := by
        rw [beq_eq_false_iff_ne]
        intro e
        exact hz ⟨by unfold bt; rw [e]; rfl, h⟩
      rw [this]; rfl
    · rw [decide_eq_false h]; simp
  have hD : digs s.data.toList = s.data.toList.all dig := by
    unfold digs
    rw [hlen, hnz, decide_eq_true h1, decide_eq_true (show s.size ≤ 7 by omega)]; simp
  have HD := Lib.hid hD
  have HS := Lib.hid hlen
  have HBT := Lib.hid (fun (k : Nat) (h : k < s.size) => run_bt s k h)
  have hcase : ((bt s 0 == 48) = true ∧ decide ((1 : Int) < (s.size : Int)) = false) ∨ (bt s 0 == 48) = false := by
    by_cases h : bt s 0 = 48
    · exact .inl ⟨by rw [h]; rfl, decide_eq_false (by intro h2; exact hz ⟨h, by omega⟩)⟩
    · exact .inr (beq_eq_false_iff_ne.2 h)
  have hs7 : (s.size : Int) ≤ 7 := by omega
  clear hD hnz hz h0 h1 h7 hlen
  go_enter Tryz.func54, Tryz.ntmps54
  rcases hcase with ⟨f1, f2⟩ | f1
  all_goals
    go_wp2_with fail
    go_loopw [23] (fun j wr => ∃ k : Nat, k ≤ s.size ∧ j = .int .i64 (k : Int) ∧ (s.data.toList.take k).all dig = true ∧ w = wr) (fun j _ => s.size + 1 - (intOf j).toNat)
    case atStart => exact ⟨0, Nat.zero_le _, rfl, rfl, rfl⟩
    case round =>
      obtain ⟨k, hk, rfl, hall, rfl⟩ := hrel
      have k0 : (0 : Int) ≤ (k : Int) := by omega
      by_cases hlt : k < s.size
      · obtain ⟨B, hB⟩ : ∃ B, B = s[k]'hlt := ⟨_, rfl⟩
        have hsk : s[k]'hlt = B := hB.symm
        have hgd : s.data.toList.getD k 0 = B := by rw [hB]; exact (get_bt s k hlt).symm
        have q1 : (k : Int) < (s.size : Int) := by omega
        have hat := all_take s.data.toList k (by rw [HS.out]; exact hlt)
        have hmi := all_miss s.data.toList k (by rw [HS.out]; exact hlt)
        rw [hgd] at hat hmi
        have HMI := Lib.hid hmi
        have HAT := Lib.hid hat
        have HALL := Lib.hid hall
        have Hk := Lib.hid hlt
        clear hat hmi hb0 hall hk hgd hB
        by_cases hd : dig B = true
        · have HDG := Lib.hid hd
          have d1 : 48 ≤ B.toNat ∧ B.toNat ≤ 57 := by unfold dig at hd; rw [Bool.and_eq_true, decide_eq_true_eq, decide_eq_true_eq] at hd; exact hd
          have e1 : decide ((B.toNat : Int) < 48) = false := decide_eq_false (by omega)
          have e2 : decide ((57 : Int) < (B.toNat : Int)) = false := decide_eq_false (by omega)
          clear hd d1
          go_wp2_with fail
          go_roundw
          case rel => exact ⟨k + 1, Hk.out, by go_num, by rw [HAT.out, HALL.out, HDG.out]; rfl, by first | rfl | trivial⟩
          case measure => have := Hk.out; simp [intOf]; omega
        · have hf : dig B = false := by simpa using hd
          have HF := Lib.hid (HMI.out hf)
          have d1 : (B.toNat : Int) < 48 ∨ (57 : Int) < (B.toNat : Int) := by
            by_cases h4 : B.toNat < 48
            · exact .inl (by omega)
            · by_cases h5 : 57 < B.toNat
              · exact .inr (by omega)
              · unfold dig at hf
                rw [decide_eq_true (show 48 ≤ B.toNat by omega), decide_eq_true (show B.toNat ≤ 57 by omega)] at hf
                cases hf
          clear hd hf
          rcases d1 with d1 | d1
          · go_wp2_with fail
            go_ret
            exact ⟨by rw [HD.out, HF.out]; rfl, rfl⟩
          · have e1 : decide ((B.toNat : Int) < 48) = false := decide_eq_false (by omega)
            go_wp2_with fail
            go_ret
            exact ⟨by rw [HD.out, HF.out]; rfl, rfl⟩
      · have hke : k = s.size := by omega
        have hfin : s.data.toList.all dig = true := by rw [hke, ← HS.out, List.take_length] at hall; exact hall
        have HFI := Lib.hid hfin
        clear hall hfin hlt hk hb0
        subst hke
        go_wp2_with fail
        go_ret
        exact ⟨by rw [HD.out, HFI.out]; rfl, rfl⟩
end Go.Proofs.YtafnipgeeampjaaGreatDoor

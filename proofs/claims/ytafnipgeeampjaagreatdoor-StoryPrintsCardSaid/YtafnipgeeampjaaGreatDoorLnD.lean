/-
  A line's numbers.
-/
import Derived.Test.YtafnipgeeampjaaGreatDoorRows
import Derived.Test.YtafnipgeeampjaaGreatDoorKit
import Derived.Test.YtafnipgeeampjaaGreatDoorApp
import Derived.Test.YtafnipgeeampjaaGreatDoorQuiet
import Derived.WalkKit
import Derived.ProofKit
import Derived.OpenShut
import Derived.ShutString
import Derived.Below
import Derived.Outline
import Derived.WalkLawsBesides
import Derived.WalkSpells
import Derived.Handy
import Derived.Deep.QuietTactic
import Derived.BigQuiet
import Derived.RegionTactic
import Derived.ChangeAlike
import Derived.Lib.Hide
import Derived.Laws.Rows
import Derived.Laws.Tables
import Derived.Laws.CopyOwn
import Derived.Laws.MakeOwn
import Derived.Laws.Entries
import Derived.Laws.OwnMore
import Derived.Deep.WholeRow
import Derived.Deep.LoopGhost
import Derived.Deep.AppendLies
import Derived.Deep.Draws
import Derived.Maps.AppendAt
import Derived.OwnWalk
import Derived.Deep.RegionHeld3
import Derived.Deep.Cut
import Derived.Deep.CutRange
import Derived.Deep.DeepCutAuto
import Derived.Deep.CutBlock
import Derived.Lib.SliceRun
import Derived.IntWalk
import Derived.Laws.Strings
import Derived.Test.YtafnipgeeampjaaGreatDoorLnB
import Derived.Lib.Atoi
import Derived.Lib.ConvBytes
namespace Go.Proofs.YtafnipgeeampjaaGreatDoor
open Go.ChangeShapes Go.WideShapes Go.ChangeAt Go.RowKit
theorem dig_val {b : UInt8} (h : dig b = true) : Lib.digitVal b = some (b.toNat - 48) := by
  unfold dig at h
  rw [Bool.and_eq_true, decide_eq_true_eq, decide_eq_true_eq] at h
  unfold Lib.digitVal
  rw [if_pos h]
theorem dec_of : ∀ (l : List UInt8) (acc : Nat), l.all dig = true → ∃ m, Lib.decFrom acc l = some m
  | [], acc, _ => ⟨acc, rfl⟩
  | b :: l, acc, h => by
    rw [List.all_cons, Bool.and_eq_true] at h
    obtain ⟨m, hm⟩ := dec_of l (acc * 10 + (b.toNat - 48)) h.2
    exact ⟨m, by unfold Lib.decFrom; rw [dig_val h.1]; exact hm⟩
/-- A word's number. -/
def nv (l : List UInt8) : Nat := (Lib.decFrom 0 l).getD 0
theorem digs_dec {l : List UInt8} (h : digs l = true) : 0 < l.length ∧ l.length ≤ 7 ∧ Lib.decFrom 0 l = some (nv l) ∧ nv l < 10000000 := by
  unfold digs at h
  simp only [Bool.and_eq_true, decide_eq_true_eq] at h
  obtain ⟨h1, h2, _, h3⟩ := h
  obtain ⟨m, hm⟩ := dec_of l 0 h3
  have e : nv l = m := by unfold nv; rw [hm]; rfl
  have hlt := Lib.decFrom_lt l 0 m hm
  have h7 := Nat.pow_le_pow_right (n := 10) (by decide) h2
  refine ⟨h1, h2, by rw [e]; exact hm, ?_⟩
  rw [e]
  have : (10 : Nat) ^ 7 = 10000000 := by decide
  omega
theorem digs_first {l : List UInt8} (h : digs l = true) (b : UInt8) (r : List UInt8) (e : l = b :: r) : 48 ≤ b.toNat ∧ b.toNat ≤ 57 := by
  unfold digs at h
  simp only [Bool.and_eq_true] at h
  have h3 := h.2.2.2
  rw [e, List.all_cons, Bool.and_eq_true] at h3
  have h4 := h3.1
  unfold dig at h4
  rw [Bool.and_eq_true, decide_eq_true_eq, decide_eq_true_eq] at h4
  exact h4
set_option maxRecDepth 100000 in
set_option maxHeartbeats 2000000 in
theorem ati_is (s : ByteArray) (h : digs s.data.toList = true) (w : World) : Calls Tryz.prog 67 #[.string s] w fun e w' => e = .returned (.tuple #[.int .i64 (nv s.data.toList : Int), .nilIface]) ∧ Below w.heap.size w w' := by
  obtain ⟨h0, h7, hm, hn⟩ := digs_dec h
  have hlen := size_len s
  have hpos : 0 < s.size := by omega
  obtain ⟨b0, r, hL⟩ : ∃ b0 r, s.data.toList = b0 :: r := by
    rcases e : s.data.toList with _ | ⟨b0, r⟩
    · rw [e] at h0; simp at h0
    · exact ⟨b0, r, rfl⟩
  have hb := digs_first h b0 r hL
  have hs0 : s[0]'hpos = b0 := by rw [get_bt s 0 hpos, hL]; rfl
  have n45 : ((b0.toNat : Int) == 45) = false := by rw [beq_eq_false_iff_ne]; omega
  have n43 : ((b0.toNat : Int) == 43) = false := by rw [beq_eq_false_iff_ne]; omega
  have hcv := Lib.run_convert_string_bytes (P := Tryz.prog) w 9 90 5 s (u := .string) Tryz.underlying9 Tryz.underlying90 Tryz.underlying5
  have hB : ∀ j, j < s.size → (Lib.bytesWorld w 5 s).cell? ⟨w.heap.size, j, none⟩ = some (.int .u8 (s.data.toList.getD j 0).toNat) := fun j hj => Lib.bytesWorld_cell w 5 s j hj
  have hbw : Below w.heap.size w (Lib.bytesWorld w 5 s) := ⟨rfl, rfl, rfl, by rw [Lib.bytesWorld_size]; omega, fun k hk => Lib.bytesWorld_at_old w 5 s k hk⟩
  obtain ⟨W1, hW1⟩ : ∃ W1, W1 = Lib.bytesWorld w 5 s := ⟨_, rfl⟩
  rw [← hW1] at hcv hB hbw
  have HB := Lib.hid hB
  have HBW := Lib.hid hbw
  obtain ⟨m, hmm⟩ : ∃ m, m = nv s.data.toList := ⟨_, rfl⟩
  rw [← hmm] at hm hn ⊢
  have HM := Lib.hid hm
  have s7 : (s.size : Int) ≤ 7 := by omega
  have s0 : (0 : Int) < (s.size : Int) := by omega
  have HS7 := Lib.hid h7
  have HLN := Lib.hid hlen
  clear hW1 hB hm hbw hmm hL hb h0 h7 h hlen hn
  go_enter Tryz.func67, Tryz.ntmps67
  go_wp2_with fail
  go_loopw [49, 6] (fun vi vn wr => ∃ (k acc : Nat), k ≤ s.size ∧ vi = .int .i64 (k : Int) ∧ vn = .int .i64 (acc : Int) ∧ Hid (Lib.decFrom 0 (s.data.toList.take k) = some acc) ∧ W1 = wr) (fun vi _ _ => s.size + 1 - (intOf vi).toNat)
  case atStart => exact ⟨0, 0, Nat.zero_le _, rfl, rfl, Lib.hid rfl, rfl⟩
  case round =>
    obtain ⟨k, acc, hk, rfl, rfl, hacc, rfl⟩ := hrel
    have k0 : (0 : Int) ≤ (k : Int) := by omega
    by_cases hkn : k < s.size
    · obtain ⟨x, hx⟩ : ∃ x, x = s.data.toList.getD k 0 := ⟨_, rfl⟩
      have hxk : s.data.toList[k]? = some x := by
        rw [hx, List.getD, List.getElem?_eq_getElem (by rw [HLN.out]; exact hkn)]
        rfl
      have hc1 : W1.cell? ⟨w.heap.size, k, none⟩ = some (.int .u8 x.toNat) := by rw [hx]; exact HB.out k hkn
      obtain ⟨dv, hdv⟩ := Lib.digit_of_decFrom _ 0 m HM.out k x hxk
      obtain ⟨h48, h57, hde⟩ := Lib.digitVal_eq hdv
      have Hxk := Lib.hid hxk
      have Hdv := Lib.hid hdv
      have Hkn := Lib.hid hkn
      have g48 : (48 : Int) ≤ (x.toNat : Int) := by omega
      have g57 : (x.toNat : Int) ≤ 57 := by omega
      have gac : acc < 10000000 := by
        have h1 := Lib.decFrom_lt _ 0 acc hacc.out
        have h3 := Nat.pow_le_pow_right (n := 10) (by decide) (show (s.data.toList.take k).length ≤ 7 by rw [List.length_take, HLN.out]; omega)
        have : (10 : Nat) ^ 7 = 10000000 := by decide
        omega
      have q1 : (k : Int) < (s.size : Int) := by omega
      have HDE := Lib.hid (And.intro hde (And.intro h48 h57))
      clear hx hxk hdv hk hde h48 h57
      go_wp2_with fail
      go_roundw
      case rel => exact ⟨k + 1, acc * 10 + dv, Hkn.out, by go_num, by have := HDE.out; first | go_num | (congr 1; omega), Lib.hid (Lib.decFrom_take _ k 0 acc x dv hacc.out Hxk.out Hdv.out), by first | rfl | trivial⟩
      case measure => have := Hkn.out; simp [intOf]; omega
    · have hke : k = s.size := by omega
      subst hke
      have hfin : acc = m := by
        have h1 := hacc.out
        rw [List.take_of_length_le (by rw [HLN.out]; exact Nat.le_refl _), HM.out] at h1
        exact (Option.some.inj h1).symm
      subst hfin
      clear hk hkn hacc
      go_wp2_with fail
      go_ret2
      exact ⟨rfl, HBW.out⟩
set_option maxRecDepth 100000 in
theorem ato_is (s : ByteArray) (h : digs s.data.toList = true) (w : World) : Calls Tryz.prog 55 #[.string s] w fun e w' => e = .returned (.tuple #[.int .i64 (nv s.data.toList : Int), .nilIface]) ∧ Below w.heap.size w w' := by
  have hc := Lib.hid (fun w => ati_is s h w)
  clear h
  go_enter Tryz.func55, Tryz.ntmps55
  go_wp2_with fail
  refine (hc.out _).mono ?_
  rintro e w' ⟨rfl, hb⟩
  go_wp2_with fail
  go_ret2
  exact ⟨rfl, hb⟩
end Go.Proofs.YtafnipgeeampjaaGreatDoor

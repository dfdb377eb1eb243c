/-
  A line parted at its first blank.
-/
import Derived.Test.YtafnipgeeampjaaGreatDoorRows
import Derived.Test.YtafnipgeeampjaaGreatDoorKit
import Derived.Test.YtafnipgeeampjaaGreatDoorApp
import Derived.Test.YtafnipgeeampjaaGreatDoorQuiet
import Derived.WalkKit
import Derived.ProofKit
import Derived.OpenShut
import Derived.ShutString
import Derived.Below
import Derived.Outline
import Derived.WalkLawsBesides
import Derived.WalkSpells
import Derived.Handy
import Derived.Deep.QuietTactic
import Derived.BigQuiet
import Derived.RegionTactic
import Derived.ChangeAlike
import Derived.Lib.Hide
import Derived.Laws.Rows
import Derived.Laws.Tables
import Derived.Laws.CopyOwn
import Derived.Laws.MakeOwn
import Derived.Laws.Entries
import Derived.Laws.OwnMore
import Derived.Deep.WholeRow
import Derived.Deep.LoopGhost
import Derived.Deep.AppendLies
import Derived.Deep.Draws
import Derived.Maps.AppendAt
import Derived.OwnWalk
import Derived.Deep.RegionHeld3
import Derived.Deep.Cut
import Derived.Deep.CutRange
import Derived.Deep.DeepCutAuto
import Derived.Deep.CutBlock
import Derived.Lib.SliceRun
import Derived.IntWalk
import Derived.Laws.Strings
import Derived.Test.YtafnipgeeampjaaGreatDoorLnA
import Derived.Lib.Bytealg
import Derived.Lib.Strings
import Derived.Laws.Externs
namespace Go.Proofs.YtafnipgeeampjaaGreatDoor
open Go.ChangeShapes Go.WideShapes Go.ChangeAt Go.RowKit
/-- Where the first blank is; -1: nowhere. -/
def ib (l : List UInt8) : Int := Lib.indexByte l 32
theorem ibyte_cases : ∀ (l : List UInt8) (c : UInt8), Lib.indexByte l c = -1 ∨ ∃ i : Nat, Lib.indexByte l c = (i : Int) ∧ i < l.length
  | [], c => .inl rfl
  | b :: l, c => by
    unfold Lib.indexByte
    by_cases h : b == c
    · rw [if_pos h]; exact .inr ⟨0, rfl, by simp⟩
    · rw [if_neg h]
      rcases ibyte_cases l c with e | ⟨i, e, hi⟩
      · rw [e]; exact .inl rfl
      · rw [e, if_neg (by rw [beq_iff_eq]; omega)]
        exact .inr ⟨i + 1, by omega, by simp; omega⟩
/-- A line parted at its first blank. -/
def cutb (l : List UInt8) : List UInt8 × List UInt8 × Bool := if 0 ≤ ib l then (l.take (ib l).toNat, l.drop ((ib l).toNat + 1), true) else (l, [], false)
theorem cutb_miss {l : List UInt8} (h : ib l = -1) : cutb l = (l, [], false) := by unfold cutb; rw [if_neg (by omega)]
theorem cutb_hit {l : List UInt8} {i : Nat} (h : ib l = (i : Int)) : cutb l = (l.take i, l.drop (i + 1), true) := by unfold cutb; rw [if_pos (by omega), h]; simp
def Bs (l : List UInt8) : ByteArray := ⟨l.toArray⟩
theorem Bs_list (l : List UInt8) : (Bs l).data.toList = l := by simp [Bs]
theorem Bs_of (s : ByteArray) : Bs s.data.toList = s := by cases s; simp [Bs]
theorem Bs_size (l : List UInt8) : (Bs l).size = l.length := by simp [Bs, ByteArray.size]
set_option maxRecDepth 100000 in
theorem ixb_is (s : ByteArray) (w : World) : Calls Tryz.prog 62 #[.string s, .int .u8 32] w fun e w' => e = .returned (.int .i64 (ib s.data.toList)) ∧ w = w' := by
  go_enter Tryz.func62, Tryz.ntmps62
  go_wp2
  rw [run_callFunc_extern Tryz.func78 (by kernel_rfl) (by kernel_rfl) (by kernel_rfl) (e := Extern.BytealgIndexByte.indexByte) (by kernel_rfl), Lib.run_indexByteString]
  simp only [Result.andThen]
  rw [Oper.upon_value]
  go_wp2
  go_ret
  exact ⟨rfl, rfl⟩
set_option maxRecDepth 100000 in
theorem idx_is (s : ByteArray) (hs : s.size ≤ 100000) (w : World) : Calls Tryz.prog 52 #[.string s, .string ⟨#[32]⟩] w fun e w' => e = .returned (.int .i64 (ib s.data.toList)) ∧ w = w' := by
  have hc := Lib.hid (fun w => ixb_is s w)
  rcases he : ([32] == s.toList) with _ | _
  rotate_left
  · have h0 : ib s.data.toList = 0 := by
      have e := beq_iff_eq.1 he
      rw [ByteArray.toList_eq] at e
      rw [← e]
      decide
    have HE := Lib.hid h0
    clear h0 hc
    go_enter Tryz.func52, Tryz.ntmps52
    go_wp2_with fail
    go_ret
    exact ⟨by rw [HE.out]; rfl, rfl⟩
  go_enter Tryz.func52, Tryz.ntmps52
  go_wp2_with fail
  refine (hc.out _).mono ?_
  rintro e w' ⟨rfl, rfl⟩
  go_wp2_with fail
  go_ret
  exact ⟨rfl, rfl⟩
set_option maxRecDepth 100000 in
set_option maxHeartbeats 1000000 in
theorem cut2_is (s : ByteArray) (hs : s.size ≤ 100000) (w : World) : Calls Tryz.prog 44 #[.string s, .string ⟨#[32]⟩] w fun e w' => e = .returned (.tuple #[.string (Bs (cutb s.data.toList).1), .string (Bs (cutb s.data.toList).2.1), .bool (cutb s.data.toList).2.2]) ∧ Below w.heap.size w w' := by
  have hc := Lib.hid (fun w => idx_is s hs w)
  have hlen := size_len s
  rcases ibyte_cases s.data.toList 32 with hm | ⟨i, hm, hi⟩
  · have hx : ib s.data.toList = -1 := hm
    have HX := Lib.hid (cutb_miss hx)
    have HB := Lib.hid (Bs_of s)
    rw [hx] at hc
    clear hm hx hlen
    go_enter Tryz.func44, Tryz.ntmps44
    go_wp2_with fail
    refine (hc.out _).mono ?_
    rintro e w' ⟨rfl, rfl⟩
    go_wp2_with fail
    go_ret3
    exact ⟨by rw [HX.out, HB.out]; rfl, Below.refl _ _⟩
  · have hx : ib s.data.toList = (i : Int) := hm
    have HX := Lib.hid (cutb_hit hx)
    have h1 : Bs (s.data.toList.take i) = s.extract 0 i := by rw [Lib.extract_eq]; simp [Bs]
    have h2 : Bs (s.data.toList.drop (i + 1)) = s.extract (i + 1) s.size := by
      rw [Lib.extract_eq, List.take_of_length_le (by rw [List.length_drop, hlen]; omega)]; rfl
    have HB := Lib.hid (And.intro h1 h2)
    have c0 : (0 : Int) ≤ (i : Int) := by omega
    have c1 : (i : Int) ≤ (s.size : Int) := by omega
    have c2 : (i : Int) + 1 ≤ (s.size : Int) := by omega
    rw [hx] at hc
    clear hm hx hlen h1 h2
    go_enter Tryz.func44, Tryz.ntmps44
    go_wp2_with fail
    refine (hc.out _).mono ?_
    rintro e w' ⟨rfl, rfl⟩
    go_wp2_with fail
    go_quiet (fail)
    go_wp2_with fail
    go_ret3
    exact ⟨by rw [HX.out, HB.out.1, HB.out.2]; rfl, ⟨rfl, rfl, rfl, Nat.le_refl _, fun _ _ => rfl⟩⟩
set_option maxRecDepth 100000 in
theorem cut_is (s : ByteArray) (hs : s.size ≤ 100000) (w : World) : Calls Tryz.prog 30 #[.string s, .string ⟨#[32]⟩] w fun e w' => e = .returned (.tuple #[.string (Bs (cutb s.data.toList).1), .string (Bs (cutb s.data.toList).2.1), .bool (cutb s.data.toList).2.2]) ∧ Below w.heap.size w w' := by
  have hc := Lib.hid (fun w => cut2_is s hs w)
  go_enter Tryz.func30, Tryz.ntmps30
  go_wp2_with fail
  refine (hc.out _).mono ?_
  rintro e w' ⟨rfl, hb⟩
  go_wp2_with fail
  go_ret3
  exact ⟨rfl, hb⟩
end Go.Proofs.YtafnipgeeampjaaGreatDoor

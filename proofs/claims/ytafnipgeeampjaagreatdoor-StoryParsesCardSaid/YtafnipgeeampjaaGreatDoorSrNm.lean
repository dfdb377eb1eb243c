/-
  The document's number.
-/
import Derived.Test.YtafnipgeeampjaaGreatDoorRows
import Derived.Test.YtafnipgeeampjaaGreatDoorKit
import Derived.Test.YtafnipgeeampjaaGreatDoorApp
import Derived.Test.YtafnipgeeampjaaGreatDoorQuiet
import Derived.WalkKit
import Derived.ProofKit
import Derived.OpenShut
import Derived.ShutString
import Derived.Below
import Derived.Outline
import Derived.WalkLawsBesides
import Derived.WalkSpells
import Derived.Handy
import Derived.Deep.QuietTactic
import Derived.BigQuiet
import Derived.RegionTactic
import Derived.ChangeAlike
import Derived.Lib.Hide
import Derived.Laws.Rows
import Derived.Laws.Tables
import Derived.Laws.CopyOwn
import Derived.Laws.MakeOwn
import Derived.Laws.Entries
import Derived.Laws.OwnMore
import Derived.Deep.WholeRow
import Derived.Deep.LoopGhost
import Derived.Deep.AppendLies
import Derived.Deep.Draws
import Derived.Maps.AppendAt
import Derived.OwnWalk
import Derived.Deep.RegionHeld3
import Derived.Deep.Cut
import Derived.Deep.CutRange
import Derived.Deep.DeepCutAuto
import Derived.Deep.CutBlock
import Derived.Lib.SliceRun
import Derived.IntWalk
import Derived.Laws.Strings
import Derived.Lib.Bytealg
import Derived.Lib.Strings
import Derived.Laws.Externs
import Derived.Test.YtafnipgeeampjaaGreatDoorSrI
import Derived.Test.YtafnipgeeampjaaGreatDoorSrTt
import Derived.Test.YtafnipgeeampjaaGreatDoorSrS
namespace Go.Proofs.YtafnipgeeampjaaGreatDoor
open Go.ChangeShapes Go.WideShapes Go.ChangeAt Go.RowKit
theorem tail_bs (l : List UInt8) : (Bs l).extract 1 (Bs l).size = Bs l.tail := by
  by_cases h : 1 ≤ l.length
  · rw [sub_Bs (Bs l) 1 (Bs l).size (by rw [Bs_size]; exact h) (Nat.le_refl _), Bs_list, Bs_size]
    congr 1
    rw [List.take_of_length_le (by rw [List.length_drop]; exact Nat.le_refl _), List.drop_one]
  · obtain rfl : l = [] := List.eq_nil_of_length_eq_zero (by omega)
    rfl
theorem rn_mk {l : List UInt8} {w w' : World} {x : Int} {b : Bool} (hb : (inum l).isSome = b) (hx : ∀ y, inum l = some y → x = y) (h : Below w.heap.size w w') : (∃ x', Ending.returned (.tuple #[.int .i64 x, .bool b]) = .returned (.tuple #[.int .i64 x', .bool (inum l).isSome]) ∧ ∀ y, inum l = some y → x' = y) ∧ Below w.heap.size w w' := ⟨⟨x, by rw [hb], hx⟩, h⟩
theorem digs_45 : digs [45] = false := by decide
theorem neg_head (b : UInt8) (t : List UInt8) : neg (b :: t) = ((b.toNat : Int) == 45) := by
  rw [neg_cons]
  rcases h : (b == 45) with _ | _
  · symm
    rw [beq_eq_false_iff_ne] at h ⊢
    intro e
    exact h (UInt8.toNat_inj.1 (by show b.toNat = 45; omega))
  · have := beq_iff_eq.1 h
    subst this
    rfl
set_option maxRecDepth 100000 in
set_option maxHeartbeats 4000000 in
theorem rnum_neg (l : List UInt8) (hl : l.length ≤ 100000) (b : UInt8) (t : List UInt8) (hlt : l = b :: t) (ht : 0 < t.length) (hn : neg l = true) (w : World) : Calls Tryz.prog 19 #[.string (Bs l)] w fun e w' => (∃ x, e = .returned (.tuple #[.int .i64 x, .bool (inum l).isSome]) ∧ ∀ y, inum l = some y → x = y) ∧ Below w.heap.size w w' := by
  have hpos : 0 < (Bs l).size := by rw [Bs_size, hlt]; simp
  have hs0 : (Bs l)[0]'hpos = b := by rw [get_bt (Bs l) 0 hpos, Bs_list, hlt]; rfl
  have q0 : (1 : Int) < ((Bs l).size : Int) := by rw [Bs_size, hlt, List.length_cons]; omega
  have q1 : ((b.toNat : Int) == 45) = true := by rw [← neg_head b t, ← hlt]; exact hn
  have q2 : 1 ≤ (Bs l).size := by omega
  have htl : l.tail = t := by rw [hlt]; rfl
  have hx1 := tail_bs l
  have hnum := num_is (Bs t) (by rw [Bs_size]; rw [hlt, List.length_cons] at hl; omega)
  rw [Bs_list] at hnum
  have HN := Lib.hid hnum
  have HI : Hid (inum l = if digs t = true ∧ t ≠ [48] then some (-(nv t : Int)) else none) := Lib.hid (by unfold inum; rw [if_pos hn, htl])
  rw [htl] at hx1
  have h7 : digs t = true → nv t ≤ 9999999 := fun h => by have := (digs_dec h).2.2.2; omega
  have hz : digs t = true → (nv t = 0 ↔ t = [48]) := digs_zero
  have HH := Lib.hid (And.intro h7 hz)
  clear hlt hn hnum htl h7 hz hl
  cases hd : digs t with
  | false =>
    have HD : Hid (inum l = none) := Lib.hid (by rw [HI.out, if_neg (by rw [hd]; exact fun h => by cases h.1)])
    have HDD := Lib.hid hd
    clear hd
    go_enter Tryz.func19, Tryz.ntmps19
    go_wp2_with fail
    refine (HN.out _).mono ?_
    rintro e1 w1 ⟨x, rfl, hx, hb⟩
    rw [HDD.out]
    have HX := Lib.hid hb
    clear hx hb
    go_wp2_with fail
    go_ret2
    exact rn_mk (by rw [HD.out]; rfl) (fun y hy => by rw [HD.out] at hy; cases hy) HX.out
  | true =>
    have hnb := HH.out.1 hd
    obtain ⟨m, hm⟩ : ∃ m, m = nv t := ⟨_, rfl⟩
    rw [← hm] at hnb
    have n0 : (0 : Int) ≤ (m : Int) := by omega
    have n9 : (m : Int) ≤ 9999999 := by omega
    have HDD := Lib.hid hd
    have HM := Lib.hid hm
    by_cases hm0 : m = 0
    · have HD : Hid (inum l = none) := Lib.hid (by rw [HI.out, if_neg (fun h => h.2 ((HH.out.2 hd).1 (by rw [← hm]; exact hm0)))])
      have q5 : ((m : Int) == 0) = true := by rw [beq_iff_eq]; omega
      have q6 : ((m : Int) != 0) = false := by unfold bne; rw [q5]; rfl
      clear hd hm hnb hm0
      go_enter Tryz.func19, Tryz.ntmps19
      go_wp2_with fail
      refine (HN.out _).mono ?_
      rintro e1 w1 ⟨x, rfl, hx, hb⟩
      rw [HDD.out]
      obtain rfl : x = (m : Int) := by rw [HM.out]; exact hx HDD.out
      have HX := Lib.hid hb
      clear hx hb
      go_wp2_with fail
      go_ret2
      exact rn_mk (by rw [HD.out]; rfl) (fun y hy => by rw [HD.out] at hy; cases hy) HX.out
    · have HD : Hid (inum l = some (-(m : Int))) := Lib.hid (by rw [HI.out, if_pos ⟨hd, fun h => hm0 (by rw [hm]; exact (HH.out.2 hd).2 h)⟩, hm])
      have q5 : ((m : Int) == 0) = false := beq_eq_false_iff_ne.2 (by omega)
      have q6 : ((m : Int) != 0) = true := by unfold bne; rw [q5]; rfl
      clear hd hm hnb hm0
      go_enter Tryz.func19, Tryz.ntmps19
      go_wp2_with fail
      refine (HN.out _).mono ?_
      rintro e1 w1 ⟨x, rfl, hx, hb⟩
      rw [HDD.out]
      obtain rfl : x = (m : Int) := by rw [HM.out]; exact hx HDD.out
      have HX := Lib.hid hb
      clear hx hb
      go_wp2_with fail
      go_ret2
      exact rn_mk (by rw [HD.out]; rfl) (fun y hy => by rw [HD.out] at hy; injection hy) HX.out
theorem inum_plain (l : List UInt8) (h : neg l = false ∨ l = [45]) : (inum l).isSome = digs l ∧ ∀ y, inum l = some y → ∀ x : Int, (digs l = true → x = (nv l : Int)) → x = y := by
  rcases h with h | rfl
  · unfold inum
    rw [if_neg (by rw [h]; exact Bool.false_ne_true)]
    cases hd : digs l with
    | false => exact ⟨rfl, fun y hy => by simp at hy⟩
    | true =>
      refine ⟨rfl, fun y hy x hx => ?_⟩
      have := hx rfl
      simp at hy
      omega
  · exact ⟨rfl, fun y hy => by cases hy⟩
set_option maxRecDepth 100000 in
set_option maxHeartbeats 4000000 in
theorem rnum_short (l : List UInt8) (hl : l.length ≤ 100000) (h1 : l.length ≤ 1) (w : World) : Calls Tryz.prog 19 #[.string (Bs l)] w fun e w' => (∃ x, e = .returned (.tuple #[.int .i64 x, .bool (inum l).isSome]) ∧ ∀ y, inum l = some y → x = y) ∧ Below w.heap.size w w' := by
  have q0 : ¬ (1 : Int) < ((Bs l).size : Int) := by rw [Bs_size]; omega
  have hnum := num_is (Bs l) (by rw [Bs_size]; exact hl)
  rw [Bs_list] at hnum
  have HN := Lib.hid hnum
  have HI : Hid ((inum l).isSome = digs l ∧ ∀ y, inum l = some y → ∀ x : Int, (digs l = true → x = (nv l : Int)) → x = y) := Lib.hid (inum_plain l (by
    rcases hl2 : l with _ | ⟨b, t⟩
    · exact Or.inl rfl
    · rw [hl2, List.length_cons] at h1
      obtain rfl : t = [] := List.eq_nil_of_length_eq_zero (by omega)
      by_cases hb : b = 45
      · right; rw [hb]
      · left; rw [neg_cons]; exact beq_eq_false_iff_ne.2 hb))
  clear h1
  clear hnum hl
  go_enter Tryz.func19, Tryz.ntmps19
  go_wp2_with fail
  refine (HN.out _).mono ?_
  rintro e1 w1 ⟨x, rfl, hx, hb⟩
  have HX := Lib.hid (And.intro hx hb)
  clear hx hb
  go_wp2_with fail
  go_ret2
  exact rn_mk HI.out.1 (fun y hy => HI.out.2 y hy x HX.out.1) HX.out.2
set_option maxRecDepth 100000 in
set_option maxHeartbeats 4000000 in
theorem rnum_pos (l : List UInt8) (hl : l.length ≤ 100000) (b : UInt8) (t : List UInt8) (hlt : l = b :: t) (ht : 0 < t.length) (hn : neg l = false) (w : World) : Calls Tryz.prog 19 #[.string (Bs l)] w fun e w' => (∃ x, e = .returned (.tuple #[.int .i64 x, .bool (inum l).isSome]) ∧ ∀ y, inum l = some y → x = y) ∧ Below w.heap.size w w' := by
  have hpos : 0 < (Bs l).size := by rw [Bs_size, hlt]; simp
  have hs0 : (Bs l)[0]'hpos = b := by rw [get_bt (Bs l) 0 hpos, Bs_list, hlt]; rfl
  have q0 : (1 : Int) < ((Bs l).size : Int) := by rw [Bs_size, hlt, List.length_cons]; omega
  have q1 : ((b.toNat : Int) == 45) = false := by rw [← neg_head b t, ← hlt]; exact hn
  have hnum := num_is (Bs l) (by rw [Bs_size]; exact hl)
  rw [Bs_list] at hnum
  have HN := Lib.hid hnum
  have HI : Hid ((inum l).isSome = digs l ∧ ∀ y, inum l = some y → ∀ x : Int, (digs l = true → x = (nv l : Int)) → x = y) := Lib.hid (inum_plain l (Or.inl hn))
  clear hlt hn
  clear hnum hl
  go_enter Tryz.func19, Tryz.ntmps19
  go_wp2_with fail
  refine (HN.out _).mono ?_
  rintro e1 w1 ⟨x, rfl, hx, hb⟩
  have HX := Lib.hid (And.intro hx hb)
  clear hx hb
  go_wp2_with fail
  go_ret2
  exact rn_mk HI.out.1 (fun y hy => HI.out.2 y hy x HX.out.1) HX.out.2
/-- The document's reading of a number. -/
theorem rnum_is (l : List UInt8) (hl : l.length ≤ 100000) (w : World) : Calls Tryz.prog 19 #[.string (Bs l)] w fun e w' => (∃ x, e = .returned (.tuple #[.int .i64 x, .bool (inum l).isSome]) ∧ ∀ y, inum l = some y → x = y) ∧ Below w.heap.size w w' := by
  by_cases h1 : l.length ≤ 1
  · exact rnum_short l hl h1 w
  · rcases hlt : l with _ | ⟨b, t⟩
    · rw [hlt] at h1; simp at h1
    · rw [← hlt]
      have ht : 0 < t.length := by rw [hlt, List.length_cons] at h1; omega
      cases hn : neg l with
      | true => exact rnum_neg l hl b t hlt ht hn w
      | false => exact rnum_pos l hl b t hlt ht hn w

end Go.Proofs.YtafnipgeeampjaaGreatDoor

/-
  What is left of a script holds, stands in it, and nothing can be taken out.
-/
import Derived.Test.YtfdjbhlpkfbgnaaRows
import Derived.Test.YtfdjbhlpkfbgnaaKit
import Derived.Test.YtfdjbhlpkfbgnaaApp
import Derived.Test.YtfdjbhlpkfbgnaaQuiet
import Derived.Test.YtfdjbhlpkfbgnaaShM
import Derived.Test.YtfdjbhlpkfbgnaaShO
import Derived.Test.YtfdjbhlpkfbgnaaShB
import Derived.Test.YtfdjbhlpkfbgnaaShC
import Derived.Test.YtfdjbhlpkfbgnaaShD
import Derived.Test.YtfdjbhlpkfbgnaaShO
import Derived.Test.YtfdjbhlpkfbgnaaShE
import Derived.Test.YtfdjbhlpkfbgnaaShU
import Derived.Test.YtfdjbhlpkfbgnaaShV
import Derived.Test.YtfdjbhlpkfbgnaaShA
import Derived.Test.YtfdjbhlpkfbgnaaShF
import Derived.Test.YtfdjbhlpkfbgnaaShG
import Derived.Test.YtfdjbhlpkfbgnaaShH
import Derived.Test.YtfdjbhlpkfbgnaaShT
import Derived.Test.YtfdjbhlpkfbgnaaShK
import Derived.Test.YtfdjbhlpkfbgnaaShS
import Derived.Test.YtfdjbhlpkfbgnaaShX
import Derived.Test.YtfdjbhlpkfbgnaaShY
import Derived.WalkKit
import Derived.ProofKit
import Derived.OpenShut
import Derived.ShutString
import Derived.Below
import Derived.Outline
import Derived.WalkLawsBesides
import Derived.WalkSpells
import Derived.Handy
import Derived.Deep.QuietTactic
import Derived.BigQuiet
import Derived.RegionTactic
import Derived.ChangeAlike
import Derived.Lib.Hide
import Derived.Laws.Rows
import Derived.Laws.Tables
import Derived.Laws.CopyOwn
import Derived.Laws.MakeOwn
import Derived.Laws.Entries
import Derived.Laws.OwnMore
import Derived.Deep.WholeRow
import Derived.Deep.LoopGhost
import Derived.Deep.AppendLies
import Derived.Deep.Draws
import Derived.Maps.AppendAt
import Derived.OwnWalk
import Derived.Deep.RegionHeld3
import Derived.Deep.Cut
import Derived.Deep.CutRange
import Derived.Deep.DeepCutAuto
import Derived.Deep.CutBlock
import Derived.Lib.SliceRun
import Derived.IntWalk
namespace Go.Proofs.Ytfdjbhlpkfbgnaa.shrinkScripts
open Go.ChangeShapes Go.WideShapes Go.ChangeAt Go.RowKit
set_option maxRecDepth 100000 in
set_option maxHeartbeats 400000 in
theorem script_no (fn : Fn) (ca : Array Value) (P : List Evn → Bool) (base0 N0 c0 : Nat) (A0 : Option Addr) (l : List Evn) (w : World) (h : w.ownsRow base0 38 12 (.slice A0 N0 c0) N0 (nv l)) (hn : N0 = l.length) (hl : N0 ≤ 60) (hA : AskOk (w.alloc (.cells #[.func fn #[] ca] 44)) w.heap.size P) (hp : P l = false) : Calls Try.prog 10 #[.slice A0 N0 c0, .func fn #[] ca] w fun e w' => e = .returned (.tuple #[.slice none 0 0, .bool false]) ∧ Below w.heap.size w w' := by
  have HAS := Lib.hid (asker_is fn ca w)
  have hbW : Below w.heap.size w (w.alloc (.cells #[.func fn #[] ca] 44)) := (Below.refl _ _).alloc (Nat.le_refl _) _
  have HQ := Lib.hid (hA (w.alloc (.cells #[.func fn #[] ca] 44)) base0 N0 c0 A0 l (Below.refl _ _) (rkept h hbW) hn hl)
  have HBW := Lib.hid hbW
  rw [hp] at HQ
  clear hA hbW h hn hp
  generalize hW1 : (w.alloc (.cells #[.func fn #[] ca] 44)) = W1 at *
  clear hW1
  go_enter Try.func10, Try.ntmps10
  go_wp2_with fail
  refine HAS.out.mono ?_
  rintro e1 w1 ⟨rfl, hw1⟩
  obtain rfl := hw1.symm
  go_wp2_with fail
  refine HQ.out.mono ?_
  rintro e2 w2 ⟨rfl, hb2⟩
  have HB2 := Lib.hid hb2
  clear hb2
  go_wp2_with fail
  go_ret2
  exact ⟨rfl, Below.step HBW.out HB2.out⟩
/-- The law's two boxes. -/
def Box (b : Nat) (kind m : Int) (w : World) : Prop := w.cell? ⟨b, 0, none⟩ = some (.int .i64 kind) ∧ w.cell? ⟨b + 1, 0, none⟩ = some (.int .i64 m) ∧ b + 1 < w.heap.size
theorem Box.below {b : Nat} {kind m : Int} {w w' : World} (h : Box b kind m w) (hb : Below w.heap.size w w') : Box b kind m w' :=
  ⟨(hb.cell (p := ⟨b, 0, none⟩) (show b < _ from by have := h.2.2; omega)).trans h.1, (hb.cell (p := ⟨b + 1, 0, none⟩) h.2.2).trans h.2.1, Nat.lt_of_lt_of_le h.2.2 hb.size⟩
theorem asks8 (b : Nat) (kind m : Int) (W : World) (h : Box b kind m W) : AskOk (W.alloc (.cells #[.func (.func 8) #[] #[.pointer (some ⟨b, 0, none⟩), .pointer (some ⟨b + 1, 0, none⟩)]] 44)) W.heap.size (holdsE kind m) :=
  ask8 _ W.heap.size b (b + 1) kind m ((Bl.new W [.func (.func 8) #[] #[.pointer (some ⟨b, 0, none⟩), .pointer (some ⟨b + 1, 0, none⟩)]] 44).cell 0 _ rfl) (by rw [World.size_alloc]; omega) ((World.cell?_alloc_lt W _ ⟨b, 0, none⟩ (show b < _ from by have := h.2.2; omega)).trans h.1) ((World.cell?_alloc_lt W _ ⟨b + 1, 0, none⟩ h.2.2).trans h.2.1) (by rw [World.size_alloc]; have := h.2.2; omega) (by rw [World.size_alloc]; have := h.2.2; omega)
theorem holds8 (b : Nat) (kind m : Int) (base n c : Nat) (A : Option Addr) (l : List Evn) (w : World) (p : Bool) (hp : holdsE kind m l = p) (h : w.ownsRow base 38 12 (.slice A n c) n (nv l)) (hn : n = l.length) (hl : n ≤ 60) (hB : Box b kind m w) : Calls Try.prog 8 #[.slice A n c, .pointer (some ⟨b, 0, none⟩), .pointer (some ⟨b + 1, 0, none⟩)] w fun e w' => e = .returned (.bool p) ∧ Below w.heap.size w w' := by
  subst hp
  exact callee8 b (b + 1) kind m base n c A l w h hn hl hB.1 hB.2.1 (by have := hB.2.2; omega) hB.2.2
set_option maxRecDepth 100000 in
set_option maxHeartbeats 2000000 in
theorem walk (A : Option Addr) (n cp : Nat) (g : Nat → Evn) (kind m : Int) (w : World) (h : EvnAt A n g w) (_ : (Lit.int .i64 kind).wf = true) (_ : (Lit.int .i64 m).wf = true) : Calls Try.prog 3 #[.slice A n cp, .int .i64 kind, .int .i64 m] w fun e w' => e = .returned (.bool true) ∧ Below w.heap.size w w' := by
  have HAW := Lib.hid awake_is
  have hmf : ∀ (fn : Fn) (first cap : Array Value) (w : World), (Instr.makeFunc fn first cap).run Try.prog w = .ok (.func fn first cap) w := fun _ _ _ _ => rfl
  obtain ⟨W2, hW2⟩ : ∃ W2, W2 = (w.alloc (.cells #[.int .i64 kind] 3)).alloc (.cells #[.int .i64 m] 3) := ⟨_, rfl⟩
  have hb2 : Below w.heap.size w W2 := by rw [hW2]; go_grown
  have hx2 : Box w.heap.size kind m W2 := ⟨by rw [hW2]; simp [go_sem], by rw [hW2]; simp [go_sem], by rw [hW2]; simp only [World.size_alloc]; omega⟩
  have HB2 := Lib.hid hb2
  have HW2 := Lib.hid hW2
  by_cases hn : n ≤ 60
  · have n0 : ¬ ((60 : Int) < (n : Int)) := by omega
    have HALL := Lib.hid (all_is A n cp g (by omega) W2 (h.below hb2))
    have HN := Lib.hid hn
    have HX2 := Lib.hid hx2
    have HE := Lib.hid (evs_len g n)
    rw [hW2] at HALL
    clear h hb2 hx2 hW2 hn
    generalize evs g n = L at *
    go_enter Try.func3, Try.ntmps3
    go_wp2_with fail
    refine HALL.out.mono ?_
    rintro e3 w3 ⟨A3, c3, rfl, ho3, hb3⟩
    rw [← HW2.out] at ho3 hb3
    have hx3 := HX2.out.below hb3
    have HX3 := Lib.hid hx3
    have HO3 := Lib.hid ho3
    have HB3 := Lib.hid (Below.step HB2.out hb3)
    clear hb3 HALL HX2
    cases hp : holdsE kind m L
    · have HS1 := Lib.hid (script_no (.func 8) #[.pointer (some ⟨w.heap.size, 0, none⟩), .pointer (some ⟨w.heap.size + 1, 0, none⟩)] (holdsE kind m) W2.heap.size n c3 A3 L w3 ho3 HE.out.symm HN.out (asks8 _ kind m w3 hx3) hp)
      have HP := Lib.hid hp
      clear hp hx3 ho3
      go_wp2_with fail
      refine HS1.out.mono ?_
      rintro e4 w4 ⟨rfl, hb4⟩
      have HB4 := Lib.hid (Below.step HB3.out hb4)
      have HC4 := Lib.hid (holds8 _ kind m W2.heap.size n c3 A3 L w4 _ HP.out (rkept HO3.out hb4) HE.out.symm HN.out (HX3.out.below hb4))
      clear hb4 HS1
      go_wp2_with fail
      refine HC4.out.mono ?_
      rintro e5 w5 ⟨rfl, hb5⟩
      have HB5 := Lib.hid (Below.step HB4.out hb5)
      have HSN := Lib.hid (script_nil n c3 A3 w5)
      clear hb5 HC4
      go_wp2_with fail
      refine HSN.out.mono ?_
      rintro e6 w6 ⟨v, rfl, hb6⟩
      have HB6 := Lib.hid (Below.step HB5.out hb6)
      clear hb6 HSN
      go_wp2_with fail
      refine (HAW.out _).mono ?_
      rintro e7 w7 ⟨rfl, hb7⟩
      have HB7 := Lib.hid (Below.step HB6.out hb7)
      clear hb7
      go_wp2_with fail
      go_ret
      exact ⟨rfl, HB7.out⟩
    · have HS1 := Lib.hid (script_is (.func 8) #[.pointer (some ⟨w.heap.size, 0, none⟩), .pointer (some ⟨w.heap.size + 1, 0, none⟩)] (holdsE kind m) W2.heap.size n c3 A3 L w3 ho3 HE.out.symm HN.out (asks8 _ kind m w3 hx3))
      rw [hp] at HS1
      have HP := Lib.hid hp
      clear hp hx3 ho3
      go_wp2_with fail
      refine HS1.out.mono ?_
      rintro e4 w4 ⟨v, rfl, hb4, hx⟩
      obtain ⟨x, ⟨b, A4, c4, rfl, ho4⟩, hsub, hpx, hlx⟩ := hx (by trivial)
      have hle : x.length ≤ 60 := by
        have h1 := hsub.length_le
        have h2 := HE.out
        have h3 := HN.out
        omega
      have HB4 := Lib.hid (Below.step HB3.out hb4)
      have HC4 := Lib.hid (holds8 _ kind m W2.heap.size n c3 A3 L w4 _ HP.out (rkept HO3.out hb4) HE.out.symm HN.out (HX3.out.below hb4))
      have HX4 := Lib.hid (HX3.out.below hb4)
      have HL4 := Lib.hid (rkept HO3.out hb4)
      have HO4 := Lib.hid ho4
      have HM := Lib.hid (And.intro hsub (And.intro hpx hlx))
      generalize hN : x.length = N at *
      have HNN := Lib.hid hN
      clear hb4 ho4 hx hsub hpx hlx hN HS1 HX3 HO3
      go_wp2_with fail
      refine HC4.out.mono ?_
      rintro e5 w5 ⟨rfl, hb5⟩
      have HB5 := Lib.hid (Below.step HB4.out hb5)
      have HX5 := Lib.hid (HX4.out.below hb5)
      have HO5 := Lib.hid (rkept HO4.out hb5)
      have HL5 := Lib.hid (rkept HL4.out hb5)
      clear hb5 HC4 HX4 HO4 HL4
      have N0 : (N : Int) ≤ 60 := by omega
      go_wp2_with fail
      go_loopw [13, 51] (fun _ i wr => ∃ k : Nat, k ≤ N ∧ i = .int .i64 (k : Int) ∧ Hid (Below w5.heap.size w5 wr)) (fun _ i _ => N + 1 - (intOf i).toNat)
      case atStart => exact ⟨0, Nat.zero_le _, rfl, Lib.hid (Below.refl _ _)⟩
      case round =>
        obtain ⟨k, hk, rfl, HBR⟩ := hrel
        have k0 : (0 : Int) ≤ (k : Int) := by omega
        by_cases hkn : k < N
        · have k1 : (k : Int) < (N : Int) := by omega
          have HLW := Lib.hid (lwo_is b A4 N c4 k x wr (rkept HO5.out HBR.out) HNN.out.symm hkn hle)
          have HXR := Lib.hid (HX5.out.below HBR.out)
          have HEL := Lib.hid (show N - 1 = (x.eraseIdx k).length from by rw [List.length_eraseIdx_of_lt (by rw [HNN.out]; exact hkn), HNN.out])
          have HFE := Lib.hid (HM.out.2.2 k (by rw [HNN.out]; exact hkn))
          have hn1 : N - 1 ≤ 60 := by omega
          have HN1 := Lib.hid hn1
          clear hn1
          go_wp2_with fail
          refine HLW.out.mono ?_
          rintro ea wa ⟨Aa, ca, rfl, hoa, hba⟩
          have HBA := Lib.hid (Below.step HBR.out hba)
          have HQA := Lib.hid (holds8 _ kind m wr.heap.size (N - 1) ca Aa (x.eraseIdx k) wa _ HFE.out hoa HEL.out HN1.out (HXR.out.below hba))
          clear hoa hba HLW
          go_wp2_with fail
          refine HQA.out.mono ?_
          rintro eb wb ⟨rfl, hbb⟩
          have HBB := Lib.hid (Below.step HBA.out hbb)
          clear hbb HQA
          go_wp2_with fail
          go_roundw
          case rel => exact ⟨k + 1, by omega, by go_num, HBB⟩
          case measure => simp [intOf]; omega
        · obtain rfl : k = N := by omega
          go_wp2_with fail
          refine (HAW.out _).mono ?_
          rintro e6 w6 ⟨rfl, hb6⟩
          have HB6 := Lib.hid (Below.step HBR.out hb6)
          have HC6 := Lib.hid (holds8 _ kind m b k c4 A4 x w6 _ HM.out.2.1 (rkept HO5.out HB6.out) HNN.out.symm hle (HX5.out.below HB6.out))
          clear hb6
          go_wp2_with fail
          refine HC6.out.mono ?_
          rintro e7 w7 ⟨rfl, hb7⟩
          have HB7 := Lib.hid (Below.step HB6.out hb7)
          have HR7 := Lib.hid (row_is b k c4 W2.heap.size n c3 A4 A3 x L w7 (rkept HO5.out HB7.out) HNN.out.symm (rkept HL5.out HB7.out) HE.out.symm hle HN.out HM.out.1)
          clear hb7 HC6
          go_wp2_with fail
          refine HR7.out.mono ?_
          rintro e8 w8 ⟨rfl, hb8⟩
          have HB8 := Lib.hid (Below.step (Below.step HB5.out HB7.out) hb8)
          clear hb8
          go_wp2_with fail
          go_ret
          exact ⟨rfl, HB8.out⟩
  · have n0 : (60 : Int) < (n : Int) := by omega
    clear h hb2 hx2 hn
    go_enter Try.func3, Try.ntmps3
    go_wp2_with fail
    refine (HAW.out _).mono ?_
    rintro e6 w6 ⟨rfl, hb6⟩
    rw [← HW2.out] at hb6
    have HB6 := Lib.hid (Below.step HB2.out hb6)
    clear hb6
    go_wp2_with fail
    go_ret
    exact ⟨rfl, HB6.out⟩
end Go.Proofs.Ytfdjbhlpkfbgnaa.shrinkScripts

/-
  A script of which nothing can be left out.
-/
import Derived.Test.YtfdjbhlpkfbgnaaRows
import Derived.Test.YtfdjbhlpkfbgnaaKit
import Derived.Test.YtfdjbhlpkfbgnaaApp
import Derived.Test.YtfdjbhlpkfbgnaaQuiet
import Derived.Test.YtfdjbhlpkfbgnaaShM
import Derived.Test.YtfdjbhlpkfbgnaaShO
import Derived.Test.YtfdjbhlpkfbgnaaShB
import Derived.Test.YtfdjbhlpkfbgnaaShC
import Derived.Test.YtfdjbhlpkfbgnaaShD
import Derived.Test.YtfdjbhlpkfbgnaaShE
import Derived.Test.YtfdjbhlpkfbgnaaShU
import Derived.Test.YtfdjbhlpkfbgnaaShV
import Derived.Test.YtfdjbhlpkfbgnaaShA
import Derived.Test.YtfdjbhlpkfbgnaaShF
import Derived.Test.YtfdjbhlpkfbgnaaShG
import Derived.WalkKit
import Derived.ProofKit
import Derived.OpenShut
import Derived.ShutString
import Derived.Below
import Derived.Outline
import Derived.WalkLawsBesides
import Derived.WalkSpells
import Derived.Handy
import Derived.Deep.QuietTactic
import Derived.BigQuiet
import Derived.RegionTactic
import Derived.ChangeAlike
import Derived.Lib.Hide
import Derived.Laws.Rows
import Derived.Laws.Tables
import Derived.Laws.CopyOwn
import Derived.Laws.MakeOwn
import Derived.Laws.Entries
import Derived.Laws.OwnMore
import Derived.Deep.WholeRow
import Derived.Deep.LoopGhost
import Derived.Deep.AppendLies
import Derived.Deep.Draws
import Derived.Maps.AppendAt
import Derived.OwnWalk
import Derived.Deep.RegionHeld3
import Derived.Deep.Cut
import Derived.Deep.CutRange
import Derived.Deep.DeepCutAuto
import Derived.Deep.CutBlock
import Derived.Lib.SliceRun
import Derived.IntWalk
namespace Go.Proofs.Ytfdjbhlpkfbgnaa
open Go.ChangeShapes Go.WideShapes Go.ChangeAt Go.RowKit
theorem asker_is (fn : Fn) (ca : Array Value) (w : World) : Calls Try.prog 19 #[.func fn #[] ca] w fun e w' => e = .returned (.func (.func 26) #[] #[.pointer (some ⟨w.heap.size, 0, none⟩)]) ∧ w' = w.alloc (.cells #[.func fn #[] ca] 44) := by
  have hmf : ∀ (fn : Fn) (first cap : Array Value) (w : World), (Instr.makeFunc fn first cap).run Try.prog w = .ok (.func fn first cap) w := fun _ _ _ _ => rfl
  go_enter Try.func19, Try.ntmps19
  go_wp2_with fail
  go_ret
  exact ⟨rfl, rfl⟩
set_option maxRecDepth 100000 in
set_option maxHeartbeats 400000 in
theorem script_is (fn : Fn) (ca : Array Value) (P : List Evn → Bool) (base0 N0 c0 : Nat) (A0 : Option Addr) (l : List Evn) (w : World) (h : w.ownsRow base0 38 12 (.slice A0 N0 c0) N0 (nv l)) (hn : N0 = l.length) (hl : N0 ≤ 60) (hA : AskOk (w.alloc (.cells #[.func fn #[] ca] 44)) w.heap.size P) : Calls Try.prog 10 #[.slice A0 N0 c0, .func fn #[] ca] w fun e w' => ∃ v, e = .returned (.tuple #[v, .bool (P l)]) ∧ Below w.heap.size w w' ∧ (P l = true → ∃ x, OwnE w' x v ∧ x.Sublist l ∧ P x = true ∧ Least P x) := by
  have HA := Lib.hid hA
  have HAS := Lib.hid (asker_is fn ca w)
  have hbW : Below w.heap.size w (w.alloc (.cells #[.func fn #[] ca] 44)) := (Below.refl _ _).alloc (Nat.le_refl _) _
  have hoW := rkept h hbW
  have HQ := Lib.hid (hA (w.alloc (.cells #[.func fn #[] ca] 44)) base0 N0 c0 A0 l (Below.refl _ _) hoW hn hl)
  have HBW := Lib.hid hbW
  have HOW := Lib.hid hoW
  have HN := Lib.hid hn
  clear hA hbW h hoW hn
  generalize hW1 : (w.alloc (.cells #[.func fn #[] ca] 44)) = W1 at *
  have HW1 := Lib.hid hW1
  clear hW1
  cases hp : P l
  · rw [hp] at HQ
    clear hp
    go_enter Try.func10, Try.ntmps10
    go_wp2_with fail
    refine HAS.out.mono ?_
    rintro e1 w1 ⟨rfl, hw1⟩
    obtain rfl := hw1.symm
    go_wp2_with fail
    refine HQ.out.mono ?_
    rintro e2 w2 ⟨rfl, hb2⟩
    have HB2 := Lib.hid hb2
    clear hb2
    go_wp2_with fail
    go_ret2
    exact ⟨_, rfl, Below.step HBW.out HB2.out, fun hf => by cases hf⟩
  · rw [hp] at HQ
    have HP := Lib.hid hp
    clear hp
    obtain ⟨s0, hs0, hs1, hsW⟩ : ∃ s0 : Nat, (N0 : Int).tdiv 2 = (s0 : Int) ∧ s0 ≤ 60 ∧ IntKind.i64.wrap (s0 : Int) = (s0 : Int) := by
      refine ⟨N0 / 2, ?_, by omega, IntWalk.i64_in _ (by omega)⟩
      rw [Int.tdiv_eq_ediv_of_nonneg (by omega)]
      omega
    go_enter Try.func10, Try.ntmps10
    go_wp2_with fail
    refine HAS.out.mono ?_
    rintro e1 w1 ⟨rfl, hw1⟩
    obtain rfl := hw1.symm
    go_wp2_with fail
    refine HQ.out.mono ?_
    rintro e2 w2 ⟨rfl, hb2⟩
    have HB2 := Lib.hid hb2
    have HC := Lib.hid (clone_is base0 c0 A0 l w2 (by rw [← HN.out]; exact rkept HOW.out hb2) (by have := HN.out; omega))
    rw [← HN.out] at HC
    clear hb2
    go_wp2_with fail
    refine HC.out.mono ?_
    rintro e3 w3 ⟨v3, rfl, ho3, hb3⟩
    obtain ⟨A3, c3, rfl⟩ := oshape ho3
    have HO3 := Lib.hid ho3
    have HB3 := Lib.hid (Below.step HB2.out hb3)
    clear ho3 hb3 HC HOW HQ HAS
    go_wp2_with fail
    go_loopg [0, 7] s0 (fun gk lv sv wr => ∃ (s N c : Nat) (A : Option Addr), gk = s ∧ lv = .slice A N c ∧ sv = .int .i64 (s : Int) ∧ s ≤ 60 ∧ N ≤ 60 ∧ Hid (∃ (base : Nat) (x : List Evn), N = x.length ∧ wr.ownsRow base 38 12 (.slice A N c) N (nv x) ∧ x.Sublist l ∧ P x = true ∧ Below W1.heap.size W1 wr))
    case atStart => exact ⟨s0, N0, c3, A3, rfl, rfl, rfl, by omega, hl, Lib.hid ⟨_, l, HN.out, HO3.out, List.Sublist.refl _, HP.out, HB3.out⟩⟩
    case round =>
      obtain ⟨s, N, c, A, rfl, rfl, rfl, hs, hN, HS⟩ := hrel
      clear hs0 hs1 hsW HB3 HO3 HB2
      obtain ⟨base, x, hNx, ho, hsub, hPx, hb⟩ := HS.out
      by_cases h1 : 1 < gk
      · have h2 : (1 : Int) < (gk : Int) := by omega
        obtain ⟨s2, hs2, hlt, hs3, hsW⟩ : ∃ s2 : Nat, (gk : Int).tdiv 2 = (s2 : Int) ∧ s2 < gk ∧ s2 ≤ 60 ∧ IntKind.i64.wrap (s2 : Int) = (s2 : Int) := by
          refine ⟨gk / 2, ?_, by omega, by omega, IntWalk.i64_in _ (by omega)⟩
          rw [Int.tdiv_eq_ediv_of_nonneg (by omega)]
          omega
        have HC := Lib.hid (without_is W1 w.heap.size P HA.out base N c A x gk wr hb ho hNx hN hPx (by omega) hs)
        have HK := Lib.hid (And.intro hsub (And.intro hb hNx))
        clear hNx ho hsub hPx hb HS
        go_wp2_with fail
        refine HC.out.mono ?_
        rintro e4 w4 ⟨v4, y, rfl, ⟨b4, A4, c4, rfl, ho4⟩, hsub4, hp4, hb4⟩
        have HK4 := Lib.hid (And.intro ho4 (And.intro hsub4 (And.intro hp4 hb4)))
        generalize hNY : y.length = NY at *
        have HNY := Lib.hid hNY
        have hle : NY ≤ N := by
          have h8 := hsub4.length_le
          have h9 := HK.out.2.2
          omega
        clear ho4 hsub4 hp4 hb4 hNY HC
        go_wp2_with fail
        go_roundg s2
        case measure => exact hlt
        case rel => exact ⟨s2, NY, c4, A4, rfl, rfl, rfl, hs3, by omega, Lib.hid ⟨b4, y, HNY.out.symm, HK4.out.1, HK4.out.2.1.trans HK.out.1, HK4.out.2.2.1, Below.step HK.out.2.1 HK4.out.2.2.2⟩⟩
      · have h2 : ¬ ((1 : Int) < (gk : Int)) := by omega
        have HC := Lib.hid (single_is W1 w.heap.size P HA.out base N c A x wr hb ho hNx hN hPx)
        have HK := Lib.hid (And.intro hsub hb)
        clear hNx ho hsub hPx hb HS
        go_wp2_with fail
        refine HC.out.mono ?_
        rintro e4 w4 ⟨v4, y, rfl, ho4, hsub4, hp4, hl4, hb4⟩
        have HK4 := Lib.hid (And.intro ho4 (And.intro hsub4 (And.intro hp4 (And.intro hl4 hb4))))
        clear ho4 hsub4 hp4 hl4 hb4 HC
        go_wp2_with fail
        go_ret2
        exact ⟨_, rfl, Below.step (Below.step HBW.out HK.out.2) HK4.out.2.2.2.2, fun _ => ⟨y, HK4.out.1, HK4.out.2.1.trans HK.out.1, HK4.out.2.2.1, HK4.out.2.2.2.1⟩⟩
end Go.Proofs.Ytfdjbhlpkfbgnaa

/-
  PlanCounts: the walk.
-/
import Derived.Test.YtdlgpbmeeiakdaaRows
import Derived.Test.YtdlgpbmeeiakdaaKit
import Derived.Test.YtdlgpbmeeiakdaaApp
import Derived.Test.YtdlgpbmeeiakdaaEv
import Derived.Test.YtdlgpbmeeiakdaaEvP
import Derived.Test.YtdlgpbmeeiakdaaEvQ
import Derived.Test.YtdlgpbmeeiakdaaEvR
import Derived.Test.YtdlgpbmeeiakdaaQuiet
import Derived.Test.YtdlgpbmeeiakdaaRules
import Derived.Test.YtdlgpbmeeiakdaaCheck
import Derived.Test.YtdlgpbmeeiakdaaChk2
import Derived.Test.YtdlgpbmeeiakdaaPlA
import Derived.Test.YtdlgpbmeeiakdaaPlB
import Derived.Test.YtdlgpbmeeiakdaaPlC
import Derived.Test.YtdlgpbmeeiakdaaPlD
import Derived.Test.YtdlgpbmeeiakdaaPlE
import Derived.Test.YtdlgpbmeeiakdaaPlF
import Derived.Test.YtdlgpbmeeiakdaaPlG
import Derived.Test.YtdlgpbmeeiakdaaPlH
import Derived.Test.YtdlgpbmeeiakdaaPlanCountsB
import Derived.WalkKit
import Derived.ProofKit
import Derived.OpenShut
import Derived.ShutString
import Derived.Below
import Derived.Outline
import Derived.WalkLawsBesides
import Derived.WalkSpells
import Derived.Handy
import Derived.Deep.QuietTactic
import Derived.BigQuiet
import Derived.RegionTactic
import Derived.ChangeAlike
import Derived.Lib.Hide
import Derived.Laws.Rows
import Derived.Laws.Tables
import Derived.Laws.CopyOwn
import Derived.Laws.MakeOwn
import Derived.Laws.Entries
import Derived.Laws.OwnMore
import Derived.Deep.WholeRow
import Derived.Deep.LoopGhost
import Derived.Deep.AppendLies
import Derived.Deep.Draws
import Derived.Maps.AppendAt
import Derived.OwnWalk
import Derived.Deep.RegionHeld3
import Derived.Deep.Cut
import Derived.Deep.CutRange
import Derived.Deep.DeepCutAuto
import Derived.Deep.CutBlock
import Derived.Lib.SliceRun
import Derived.IntWalk
namespace Go.Proofs.Ytdlgpbmeeiakdaa.planCounts
open Go.ChangeShapes Go.WideShapes Go.ChangeAt Go.RowKit
/-- A slice of pairs that reads as a list. -/
def PAt (w : World) (A : Option Addr) (l : List (Int × Int)) : Prop :=
  l = [] ∨ ∃ g, A = some ⟨g, 0, none⟩ ∧ g < w.heap.size ∧ ∀ (i : Nat) (q : Int × Int), l[i]? = some q → w.cell? ⟨g, i * 2, none⟩ = some (.int .i64 q.1) ∧ w.cell? ⟨g, i * 2 + 1, none⟩ = some (.int .i64 q.2)
theorem PAt.below {w w' : World} {A : Option Addr} {l : List (Int × Int)} (h : PAt w A l) (hb : Below w.heap.size w w') : PAt w' A l := by
  rcases h with h | ⟨g, e, hg, hc⟩
  · exact .inl h
  · exact .inr ⟨g, e, Nat.lt_of_lt_of_le hg hb.size, fun i q h => ⟨(hb.cell (p := ⟨g, i * 2, none⟩) hg).trans (hc i q h).1, (hb.cell (p := ⟨g, i * 2 + 1, none⟩) hg).trans (hc i q h).2⟩⟩
theorem PAt.of_own {w : World} {base c : Nat} {A : Option Addr} {l : List (Int × Int)} (h : w.ownsRow base 57 2 (.slice A l.length c) l.length (prl l)) : PAt w A l := by
  by_cases h0 : l = []
  · exact .inl h0
  have hl : 0 < l.length := List.length_pos_iff.2 h0
  obtain ⟨g, cap, hv, _, hlt⟩ := World.ownsRow.form h hl
  have hA : A = some ⟨g, 0, none⟩ := by injection hv
  subst hA
  refine .inr ⟨g, rfl, hlt, fun i q hq => ?_⟩
  have hi := (List.getElem?_eq_some_iff.1 hq).1
  obtain ⟨h1, h2⟩ := prl_get l i q hq
  exact ⟨(World.ownsRow.cellAt h (i * 2) (by omega)).trans h1, (World.ownsRow.cellAt h (i * 2 + 1) (by omega)).trans h2⟩
theorem PAt.at_ {w : World} {A : Option Addr} {l : List (Int × Int)} (h : PAt w A l) (i : Nat) (q : Int × Int) (hq : l[i]? = some q) : ∃ g, A = some ⟨g, 0, none⟩ ∧ w.cell? ⟨g, i * 2, none⟩ = some (.int .i64 q.1) ∧ w.cell? ⟨g, i * 2 + 1, none⟩ = some (.int .i64 q.2) := by
  rcases h with h | ⟨g, e, hg, hc⟩
  · subst h; simp at hq
  · exact ⟨g, e, (hc i q hq).1, (hc i q hq).2⟩
set_option maxRecDepth 100000 in
set_option maxHeartbeats 16000000 in
theorem main_le (p c n b r f g ag win : Int) (m : Nat) (A : Option Addr) (cap : Nat) (L : List Int) (w : World) (hp : 1 ≤ p ∧ p ≤ 6) (hc : 1 ≤ c ∧ c ≤ 4) (hn : 1 ≤ n ∧ n ≤ 3) (hb : 1 ≤ b ∧ b ≤ 4) (hr : 0 ≤ r ∧ r ≤ 4) (hf : 1 ≤ f ∧ f ≤ 4) (hg : 1 ≤ g ∧ g ≤ 15)
    (hm : (m : Int) = p + 2 * (n * b)) (hI : IAt w A L) (hl : L.length ≤ 100) (hwin : 1 < win) :
    Calls Try.prog 6 #[.agg #[.int .i64 p, .int .i64 c, .int .i64 n, .int .i64 b, .int .i64 r, .int .i64 f, .int .i64 g], .slice A L.length cap, .int .i64 ag, .int .i64 win] w fun e w' => e = .returned (.bool true) ∧ Below w.heap.size w w' := by
  have hnb := mul12 hn hb
  have HN := Lib.hid (fun W => rnew_ok p c n b r f g W hp hc hn hb hr hf hg)
  have HCK := Lib.hid (fun W => check_ok p c n b r f g W hp hc hn hb hr hf hg)
  have H := Lib.hid hI
  have HEV := Lib.hid (fun W (h : IAt W A L) => events_is A cap L W h (by omega))
  have hEL : (L.map evOf).length = L.length := List.length_map ..
  have hEg : ∀ t : Nat, (L.map evOf)[t]? = (L[t]?).map evOf := fun t => List.getElem?_map ..
  have HGM := Lib.hid (fun (a : Int) (ha : 0 ≤ a) => gap_Mg a ha L)
  have HRI := Lib.hid (rsE_rsI L)
  obtain ⟨E, hE⟩ : ∃ E, E = L.map evOf := ⟨_, rfl⟩
  rw [← hE] at HEV hEL hEg HGM HRI
  have HEG := Lib.hid hEg
  have hE5 : E.length ≤ 100000 := by omega
  have HPI := Lib.hid (fun (B : Option Addr) (cp : Nat) (W : World) (h : EAt W B E) => picked_is p c n b r f g m B cp E W h hE5 hm hnb hp)
  have HRG := Lib.hid (fun (a : Int) (W : World) (h : IAt W A L) => refgap_is a A cap L W h (by omega))
  have HFA := Lib.hid (fun (B : Option Addr) (cp : Nat) (W : World) (h : EAt W B E) => fair_le p c n b r f g win m B cp E W h hE5 hm hnb hp hwin)
  have HRU := Lib.hid (fun (B : Option Addr) (cp : Nat) (W : World) (h : EAt W B E) => runs_is B cp E W h hE5)
  have HRR := Lib.hid (fun (W : World) (h : IAt W A L) => refruns_is A cap L W h (by omega))
  have HGA := Lib.hid (fun (a : Int) (B : Option Addr) (cp : Nat) (W : World) (h : EAt W B E) => gap_is a B cp E W h hE5)
  have hnb2 : 2 * n * b = (m : Int) - p := by rw [hm, Int.mul_assoc]; omega
  have hpm : p + ((m : Int) - p) = (m : Int) := by omega
  have m2 : m ≤ 30 := by omega
  have m0 : (0 : Int) ≤ (m : Int) := by omega
  have m1 : (m : Int) ≤ 30 := by omega
  obtain ⟨p0, p1⟩ := hp
  obtain ⟨n0, n1⟩ := hn
  have mp : p ≤ (m : Int) := by omega
  have l1 : (L.length : Int) ≤ 100 := by omega
  have HEL := Lib.hid hEL
  have hmw : (if win < 1 then (1 : Int) else win) = win := by split <;> omega
  have bx0 := Blk7.new w p c n b r f g 23
  clear hE hEL hEg hI hm hnb hc hb hr hf hg
  go_enter Try.func6, Try.ntmps6
  go_wp2_with fail
  refine (HN.out _).mono ?_
  rintro e w1 ⟨rfl, hb1⟩
  have bx1 := bx0.below hb1
  have hB1 : Below w.heap.size w w1 := Below.step (by go_grown) hb1
  clear hb1 bx0
  have hB1a := hB1.alloc hB1.size (.cells #[.int .i64 p, .int .i64 c, .int .i64 n, .int .i64 b, .int .i64 r, .int .i64 f, .int .i64 g] 25)
  have bC1 := bx1.below (show Below w1.heap.size w1 (w1.alloc (.cells #[.int .i64 p, .int .i64 c, .int .i64 n, .int .i64 b, .int .i64 r, .int .i64 f, .int .i64 g] 25)) from by go_grown)
  have bR1 := Blk7.new w1 p c n b r f g 25
  obtain ⟨⟨c0, c1, c2, c3, c4, c5, c6⟩, hlx⟩ := id bx1
  go_wp2_with fail
  refine (HCK.out _).mono ?_
  rintro e w2 ⟨rfl, hb2⟩
  have hB2 : Below w.heap.size w w2 := Below.step hB1a hb2
  have bC2 := bC1.below hb2
  have bR2 := bR1.below hb2
  clear hb2 bC1 bR1 bx1 c0 c1 c2 c3 c4 c5 c6 hlx hB1 hB1a
  have hld : decide ((100 : Int) < (L.length : Int)) = false := decide_eq_false (by omega)
  go_wp2_with fail
  refine (HEV.out _ (H.out.below hB2)).mono ?_
  rintro e w3 ⟨v, rfl, hO3, hb3⟩
  have hB3 : Below w.heap.size w w3 := Below.step hB2 hb3
  have bC3 := bC2.below hb3
  have bR3 := bR2.below hb3
  obtain ⟨B, cp, rfl⟩ := own_shape hO3
  have HE3 := Lib.hid (EAt.of_own hO3)
  clear hb3 bC2 bR2 hO3 hB2
  obtain ⟨⟨c0, c1, c2, c3, c4, c5, c6⟩, hlx⟩ := id bC3
  obtain ⟨⟨d0, d1, d2, d3, d4, d5, d6⟩, hly⟩ := id bR3
  go_wp2_with fail
  refine (HPI.out B cp _ HE3.out).mono ?_
  rintro e w4 ⟨O, rfl, hO, HC, hb4⟩
  have hB4 := Below.step hB3 hb4
  have bR4 := bR3.below hb4
  have HE4 := Lib.hid (HE3.out.below hb4)
  have HI4 := Lib.hid (H.out.below hB4)
  clear hb4 bC3 bR3 hB3 HE3 c0 c1 c2 c3 c4 c5 c6 hlx d0 d1 d2 d3 d4 d5 d6 hly hO hpm hnb2
  have hmm : ((m : Int) != (m : Int)) = false := by simp
  go_wp2_with fail
  go_loopw [14, 63] (fun F i wr => ∃ k : Nat, k ≤ m ∧ i = .int .i64 (k : Int) ∧ F = .bool (fbS (win) E k) ∧ Below w4.heap.size w4 wr) (fun _ i _ => m + 1 - (intOf i).toNat)
  case atStart => exact ⟨0, Nat.zero_le _, rfl, rfl, Below.refl _ _⟩
  case round =>
    obtain ⟨k, hk, rfl, rfl, hB⟩ := hrel
    have k0 : (0 : Int) ≤ (k : Int) := by omega
    by_cases hkm : k < m
    · have k1 : (k : Int) < (m : Int) := by omega
      have HIr := Lib.hid (HI4.out.below hB)
      obtain ⟨y0, _, _⟩ := (HC.out.below hB).cell k hkm
      have hcb : cnt (k : Int) E ≤ 100 := by have := cnt_le (k : Int) E; have := HEL.out; omega
      have Y0 := Lib.hid y0
      clear y0
      go_wp2_with fail
      go_loopw [16, 68] (fun C j wq => wq = wr ∧ ∃ t : Nat, t ≤ L.length ∧ j = .int .i64 (t : Int) ∧ C = .int .i64 ((cnt (k : Int) (E.take t) : Nat) : Int)) (fun _ j _ => L.length + 1 - (intOf j).toNat)
      case atStart => exact ⟨rfl, 0, Nat.zero_le _, rfl, rfl⟩
      case round =>
        obtain ⟨rfl, t, ht, rfl, rfl⟩ := hrel
        have t0 : (0 : Int) ≤ (t : Int) := by omega
        by_cases htl : t < L.length
        · have t1 : (t : Int) < (L.length : Int) := by omega
          obtain ⟨x, hx⟩ : ∃ e, L[t]? = some e := ⟨_, List.getElem?_eq_getElem htl⟩
          obtain ⟨ad, hA, hadl, hcx⟩ := HIr.out t x hx
          subst hA
          have hct : cnt (k : Int) (E.take (t + 1)) = cnt (k : Int) (E.take t) + (if isP (k : Int) (evOf x) then 1 else 0) := cnt_take _ _ _ _ (by rw [HEG.out, hx]; rfl)
          rw [isP_evOf _ _ (by omega)] at hct
          have hcb2 : cnt (k : Int) (E.take t) ≤ 100 := by have := cnt_le (k : Int) (E.take t); rw [List.length_take] at this; omega
          have HCT := Lib.hid hct
          clear hct hx
          by_cases hxk : x = (k : Int)
          · have he : (x == (k : Int)) = true := by simpa using hxk
            have HC1 := Lib.hid (show cnt (k : Int) (E.take (t + 1)) = cnt (k : Int) (E.take t) + 1 from by rw [HCT.out, if_pos (by simpa using hxk)])
            clear hxk
            generalize cnt (k : Int) (E.take t) = C at *
            go_wp2_with fail
            go_roundw
            case rel => exact ⟨trivial, t + 1, by omega, by go_num, by rw [HC1.out]; go_num⟩
            case measure => simp [intOf]; omega
          · have he : (x == (k : Int)) = false := by simpa using hxk
            have HC1 := Lib.hid (show cnt (k : Int) (E.take (t + 1)) = cnt (k : Int) (E.take t) from by rw [HCT.out, if_neg (by simpa using hxk)]; rfl)
            clear hxk
            generalize cnt (k : Int) (E.take t) = C at *
            go_wp2_with fail
            go_roundw
            case rel => exact ⟨trivial, t + 1, by omega, by go_num, by rw [HC1.out]⟩
            case measure => simp [intOf]; omega
        · obtain rfl : t = L.length := by omega
          have hd : decide ((L.length : Int) < (L.length : Int)) = false := decide_eq_false (by omega)
          have hTK : E.take L.length = E := List.take_of_length_le (by have := HEL.out; omega)
          rw [hTK]
          have y0 := Y0.out
          have HGK := Lib.hid (HGM.out (k : Int) k0)
          have HNX := Lib.hid (show fbS (win) E (k + 1) = (fbS (win) E k && decide (((gapS (k : Int) E).1 : Int) < win)) from rfl)
          clear hTK
          generalize cnt (k : Int) E = C at *
          generalize ((gapS (k : Int) E).1 : Nat) = G at *
          generalize hFF : fbS (win) E k = F
          rw [hFF] at HNX
          have hcc : ((C : Int) != (C : Int)) = false := by simp
          clear hFF
          cases F with
          | true =>
            go_wp2_with fail
            refine (HRG.out (k : Int) _ HIr.out).mono ?_
            rintro e w5 ⟨rfl, hb5⟩
            have hB5 := Below.step hB hb5
            rw [← HGK.out]
            by_cases hgw : (G : Int) < win
            · have HTR := Lib.hid (show fbS (win) E (k + 1) = true from by rw [HNX.out]; simp [hgw])
              go_wp2_with fail
              go_roundw
              case rel => exact ⟨k + 1, by omega, by go_num, by rw [HTR.out], hB5⟩
              case measure => simp [intOf]; omega
            · have hgd : decide ((G : Int) < win) = false := decide_eq_false hgw
              have HTR := Lib.hid (show fbS (win) E (k + 1) = false from by rw [HNX.out]; simp [hgd])
              go_wp2_with fail
              go_roundw
              case rel => exact ⟨k + 1, by omega, by go_num, by rw [HTR.out], hB5⟩
              case measure => simp [intOf]; omega
          | false =>
            have HTR := Lib.hid (show fbS (win) E (k + 1) = false from by rw [HNX.out]; rfl)
            go_wp2_with fail
            go_roundw
            case rel => exact ⟨k + 1, by omega, by go_num, by rw [HTR.out], hB⟩
            case measure => simp [intOf]; omega
    · obtain rfl : k = m := by omega
      have hd : decide ((k : Int) < (k : Int)) = false := decide_eq_false (by omega)
      have hBr := Below.step hB4 hB
      have bR5 := bR4.below hB
      have HE5 := Lib.hid (HE4.out.below hB)
      have HI5 := Lib.hid (HI4.out.below hB)
      have HFm := Lib.hid (fun W (h : EAt W B E) => HFA.out B cp W h)
      generalize fbS (win) E k = F at *
      have hFF : (F == F) = true := by simp
      clear hB hB4 bR4 HE4 HI4 HC
      go_wp2_with fail
      refine (HRU.out B cp _ HE5.out).mono ?_
      rintro e w5 ⟨v5, rfl, hO5, hb5⟩
      have hB5 := Below.step hBr hb5
      have bR6 := bR5.below hb5
      have HE6 := Lib.hid (HE5.out.below hb5)
      have HI6 := Lib.hid (HI5.out.below hb5)
      rw [HEL.out, HRI.out] at hO5
      obtain ⟨A5, c5, rfl⟩ := own_shape hO5
      have HP5 := Lib.hid (PAt.of_own hO5)
      clear hb5 bR5 HE5 HI5 hO5 hBr
      go_wp2_with fail
      refine (HRR.out _ HI6.out).mono ?_
      rintro e w6 ⟨v6, rfl, hO6, hb6⟩
      have hB6 := Below.step hB5 hb6
      have bR7 := bR6.below hb6
      have HE7 := Lib.hid (HE6.out.below hb6)
      have HI7 := Lib.hid (HI6.out.below hb6)
      have HP6 := Lib.hid (HP5.out.below hb6)
      obtain ⟨A6, c6, rfl⟩ := own_shape hO6
      have HQ6 := Lib.hid (PAt.of_own hO6)
      have hrl : (rsI L L.length).length ≤ 100 := by have := bump_lenI L L.length; omega
      clear hb6 bR6 HE6 HI6 hO6 hB5 HP5
      generalize rsI L L.length = R at *
      have r1 : (R.length : Int) ≤ 100 := by omega
      have hRR : ((R.length : Int) != (R.length : Int)) = false := by simp
      go_wp2_with fail
      go_loopw [105] (fun i wr => ∃ t : Nat, t ≤ R.length ∧ i = .int .i64 (t : Int) ∧ Below w6.heap.size w6 wr) (fun i _ => R.length + 1 - (intOf i).toNat)
      case atStart => exact ⟨0, Nat.zero_le _, rfl, Below.refl _ _⟩
      case round =>
        rename_i wz
        obtain ⟨t, ht, rfl, hBt⟩ := hrel
        have t0 : (0 : Int) ≤ (t : Int) := by omega
        by_cases htl : t < R.length
        · have t1 : (t : Int) < (R.length : Int) := by omega
          obtain ⟨q, hq⟩ : ∃ e, R[t]? = some e := ⟨_, List.getElem?_eq_getElem htl⟩
          obtain ⟨g5, hA5, x0, x1⟩ := (HP6.out.below hBt).at_ t q hq
          obtain ⟨g6, hA6, x2, x3⟩ := (HQ6.out.below hBt).at_ t q hq
          subst hA5
          subst hA6
          obtain ⟨q1, q2⟩ := q
          dsimp only at x0 x1 x2 x3
          have hqq : ∀ W, (Op.equalIn 10000 57 (.agg #[.int .i64 q1, .int .i64 q2]) (.agg #[.int .i64 q1, .int .i64 q2])).run Try.prog W = .ok true W := fun W => by rw [eqA]; simp
          go_wp2_with fail
          go_region
          go_wp2_with fail
          go_roundw
          case rel => exact ⟨t + 1, by omega, by go_num, Below.drew hBt⟩
          case measure => simp [intOf]; omega
        · obtain rfl : t = R.length := by omega
          have hd2 : decide ((R.length : Int) < (R.length : Int)) = false := decide_eq_false (by omega)
          have hB7 := Below.step hB6 hBt
          have bR8 := bR7.below hBt
          have HE8 := Lib.hid (HE7.out.below hBt)
          have HI8 := Lib.hid (HI7.out.below hBt)
          clear hB6 hBt bR7 HE7 HI7 HP6 HQ6
          by_cases hag : 0 ≤ ag
          · have HGK := Lib.hid (HGM.out ag hag)
            go_wp2_with fail
            refine (HGA.out ag B cp _ HE8.out).mono ?_
            rintro e w7 ⟨rfl, hb7⟩
            have hB8 := Below.step hB7 hb7
            have bR9 := bR8.below hb7
            have HE9 := Lib.hid (HE8.out.below hb7)
            have HI9 := Lib.hid (HI8.out.below hb7)
            clear hb7 hB7 bR8 HE8 HI8
            go_wp2_with fail
            refine (HRG.out ag _ HI9.out).mono ?_
            rintro e w8 ⟨rfl, hb8⟩
            have hB9 := Below.step hB8 hb8
            have bR10 := bR9.below hb8
            have HE10 := Lib.hid (HE9.out.below hb8)
            clear hb8 hB8 bR9 HE9 HI9
            rw [← HGK.out]
            generalize ((gapS ag E).1 : Nat) = G at *
            have hGG : ((G : Int) != (G : Int)) = false := by simp
            go_wp2_with fail
            refine (awake21 _).mono ?_
            rintro e w9 ⟨rfl, hb9⟩
            have hB11 := Below.step hB9 hb9
            have bR11 := bR10.below hb9
            have HE11 := Lib.hid (HE10.out.below hb9)
            obtain ⟨⟨c0, c1, c2, c3, c4, c5', c6'⟩, hlx⟩ := id bR11
            clear hb9 hB9 bR10 HE10
            go_wp2_with fail
            refine (HFm.out _ HE11.out).mono ?_
            rintro e w10 ⟨rfl, hb10⟩
            have hB12 := Below.step hB11 hb10
            go_wp2_with fail
            go_ret
            exact ⟨rfl, hB12⟩
          · have hagd : decide (0 ≤ ag) = false := decide_eq_false hag
            go_wp2_with fail
            refine (awake21 _).mono ?_
            rintro e w9 ⟨rfl, hb9⟩
            have hB11 := Below.step hB7 hb9
            have bR11 := bR8.below hb9
            have HE11 := Lib.hid (HE8.out.below hb9)
            obtain ⟨⟨c0, c1, c2, c3, c4, c5', c6'⟩, hlx⟩ := id bR11
            clear hb9 hB7 bR8 HE8
            go_wp2_with fail
            refine (HFm.out _ HE11.out).mono ?_
            rintro e w10 ⟨rfl, hb10⟩
            have hB12 := Below.step hB11 hb10
            go_wp2_with fail
            go_ret
            exact ⟨rfl, hB12⟩
set_option maxRecDepth 100000 in
set_option maxHeartbeats 16000000 in
theorem main_gt (p c n b r f g ag win : Int) (m : Nat) (A : Option Addr) (cap : Nat) (L : List Int) (w : World) (hp : 1 ≤ p ∧ p ≤ 6) (hc : 1 ≤ c ∧ c ≤ 4) (hn : 1 ≤ n ∧ n ≤ 3) (hb : 1 ≤ b ∧ b ≤ 4) (hr : 0 ≤ r ∧ r ≤ 4) (hf : 1 ≤ f ∧ f ≤ 4) (hg : 1 ≤ g ∧ g ≤ 15)
    (hm : (m : Int) = p + 2 * (n * b)) (hI : IAt w A L) (hl : L.length ≤ 100) (hwin : win ≤ 1) :
    Calls Try.prog 6 #[.agg #[.int .i64 p, .int .i64 c, .int .i64 n, .int .i64 b, .int .i64 r, .int .i64 f, .int .i64 g], .slice A L.length cap, .int .i64 ag, .int .i64 win] w fun e w' => e = .returned (.bool true) ∧ Below w.heap.size w w' := by
  have hnb := mul12 hn hb
  have HN := Lib.hid (fun W => rnew_ok p c n b r f g W hp hc hn hb hr hf hg)
  have HCK := Lib.hid (fun W => check_ok p c n b r f g W hp hc hn hb hr hf hg)
  have H := Lib.hid hI
  have HEV := Lib.hid (fun W (h : IAt W A L) => events_is A cap L W h (by omega))
  have hEL : (L.map evOf).length = L.length := List.length_map ..
  have hEg : ∀ t : Nat, (L.map evOf)[t]? = (L[t]?).map evOf := fun t => List.getElem?_map ..
  have HGM := Lib.hid (fun (a : Int) (ha : 0 ≤ a) => gap_Mg a ha L)
  have HRI := Lib.hid (rsE_rsI L)
  obtain ⟨E, hE⟩ : ∃ E, E = L.map evOf := ⟨_, rfl⟩
  rw [← hE] at HEV hEL hEg HGM HRI
  have HEG := Lib.hid hEg
  have hE5 : E.length ≤ 100000 := by omega
  have HPI := Lib.hid (fun (B : Option Addr) (cp : Nat) (W : World) (h : EAt W B E) => picked_is p c n b r f g m B cp E W h hE5 hm hnb hp)
  have HRG := Lib.hid (fun (a : Int) (W : World) (h : IAt W A L) => refgap_is a A cap L W h (by omega))
  have HFA := Lib.hid (fun (B : Option Addr) (cp : Nat) (W : World) (h : EAt W B E) => fair_gt p c n b r f g win m B cp E W h hE5 hm hnb hp hwin)
  have HRU := Lib.hid (fun (B : Option Addr) (cp : Nat) (W : World) (h : EAt W B E) => runs_is B cp E W h hE5)
  have HRR := Lib.hid (fun (W : World) (h : IAt W A L) => refruns_is A cap L W h (by omega))
  have HGA := Lib.hid (fun (a : Int) (B : Option Addr) (cp : Nat) (W : World) (h : EAt W B E) => gap_is a B cp E W h hE5)
  have hnb2 : 2 * n * b = (m : Int) - p := by rw [hm, Int.mul_assoc]; omega
  have hpm : p + ((m : Int) - p) = (m : Int) := by omega
  have m2 : m ≤ 30 := by omega
  have m0 : (0 : Int) ≤ (m : Int) := by omega
  have m1 : (m : Int) ≤ 30 := by omega
  obtain ⟨p0, p1⟩ := hp
  obtain ⟨n0, n1⟩ := hn
  have mp : p ≤ (m : Int) := by omega
  have l1 : (L.length : Int) ≤ 100 := by omega
  have HEL := Lib.hid hEL
  have hmw : (if win < 1 then (1 : Int) else win) = 1 := by split <;> omega
  have bx0 := Blk7.new w p c n b r f g 23
  clear hE hEL hEg hI hm hnb hc hb hr hf hg
  go_enter Try.func6, Try.ntmps6
  go_wp2_with fail
  refine (HN.out _).mono ?_
  rintro e w1 ⟨rfl, hb1⟩
  have bx1 := bx0.below hb1
  have hB1 : Below w.heap.size w w1 := Below.step (by go_grown) hb1
  clear hb1 bx0
  have hB1a := hB1.alloc hB1.size (.cells #[.int .i64 p, .int .i64 c, .int .i64 n, .int .i64 b, .int .i64 r, .int .i64 f, .int .i64 g] 25)
  have bC1 := bx1.below (show Below w1.heap.size w1 (w1.alloc (.cells #[.int .i64 p, .int .i64 c, .int .i64 n, .int .i64 b, .int .i64 r, .int .i64 f, .int .i64 g] 25)) from by go_grown)
  have bR1 := Blk7.new w1 p c n b r f g 25
  obtain ⟨⟨c0, c1, c2, c3, c4, c5, c6⟩, hlx⟩ := id bx1
  go_wp2_with fail
  refine (HCK.out _).mono ?_
  rintro e w2 ⟨rfl, hb2⟩
  have hB2 : Below w.heap.size w w2 := Below.step hB1a hb2
  have bC2 := bC1.below hb2
  have bR2 := bR1.below hb2
  clear hb2 bC1 bR1 bx1 c0 c1 c2 c3 c4 c5 c6 hlx hB1 hB1a
  have hld : decide ((100 : Int) < (L.length : Int)) = false := decide_eq_false (by omega)
  go_wp2_with fail
  refine (HEV.out _ (H.out.below hB2)).mono ?_
  rintro e w3 ⟨v, rfl, hO3, hb3⟩
  have hB3 : Below w.heap.size w w3 := Below.step hB2 hb3
  have bC3 := bC2.below hb3
  have bR3 := bR2.below hb3
  obtain ⟨B, cp, rfl⟩ := own_shape hO3
  have HE3 := Lib.hid (EAt.of_own hO3)
  clear hb3 bC2 bR2 hO3 hB2
  obtain ⟨⟨c0, c1, c2, c3, c4, c5, c6⟩, hlx⟩ := id bC3
  obtain ⟨⟨d0, d1, d2, d3, d4, d5, d6⟩, hly⟩ := id bR3
  go_wp2_with fail
  refine (HPI.out B cp _ HE3.out).mono ?_
  rintro e w4 ⟨O, rfl, hO, HC, hb4⟩
  have hB4 := Below.step hB3 hb4
  have bR4 := bR3.below hb4
  have HE4 := Lib.hid (HE3.out.below hb4)
  have HI4 := Lib.hid (H.out.below hB4)
  clear hb4 bC3 bR3 hB3 HE3 c0 c1 c2 c3 c4 c5 c6 hlx d0 d1 d2 d3 d4 d5 d6 hly hO hpm hnb2
  have hmm : ((m : Int) != (m : Int)) = false := by simp
  go_wp2_with fail
  go_loopw [14, 63] (fun F i wr => ∃ k : Nat, k ≤ m ∧ i = .int .i64 (k : Int) ∧ F = .bool (fbS (1) E k) ∧ Below w4.heap.size w4 wr) (fun _ i _ => m + 1 - (intOf i).toNat)
  case atStart => exact ⟨0, Nat.zero_le _, rfl, rfl, Below.refl _ _⟩
  case round =>
    obtain ⟨k, hk, rfl, rfl, hB⟩ := hrel
    have k0 : (0 : Int) ≤ (k : Int) := by omega
    by_cases hkm : k < m
    · have k1 : (k : Int) < (m : Int) := by omega
      have HIr := Lib.hid (HI4.out.below hB)
      obtain ⟨y0, _, _⟩ := (HC.out.below hB).cell k hkm
      have hcb : cnt (k : Int) E ≤ 100 := by have := cnt_le (k : Int) E; have := HEL.out; omega
      have Y0 := Lib.hid y0
      clear y0
      go_wp2_with fail
      go_loopw [16, 68] (fun C j wq => wq = wr ∧ ∃ t : Nat, t ≤ L.length ∧ j = .int .i64 (t : Int) ∧ C = .int .i64 ((cnt (k : Int) (E.take t) : Nat) : Int)) (fun _ j _ => L.length + 1 - (intOf j).toNat)
      case atStart => exact ⟨rfl, 0, Nat.zero_le _, rfl, rfl⟩
      case round =>
        obtain ⟨rfl, t, ht, rfl, rfl⟩ := hrel
        have t0 : (0 : Int) ≤ (t : Int) := by omega
        by_cases htl : t < L.length
        · have t1 : (t : Int) < (L.length : Int) := by omega
          obtain ⟨x, hx⟩ : ∃ e, L[t]? = some e := ⟨_, List.getElem?_eq_getElem htl⟩
          obtain ⟨ad, hA, hadl, hcx⟩ := HIr.out t x hx
          subst hA
          have hct : cnt (k : Int) (E.take (t + 1)) = cnt (k : Int) (E.take t) + (if isP (k : Int) (evOf x) then 1 else 0) := cnt_take _ _ _ _ (by rw [HEG.out, hx]; rfl)
          rw [isP_evOf _ _ (by omega)] at hct
          have hcb2 : cnt (k : Int) (E.take t) ≤ 100 := by have := cnt_le (k : Int) (E.take t); rw [List.length_take] at this; omega
          have HCT := Lib.hid hct
          clear hct hx
          by_cases hxk : x = (k : Int)
          · have he : (x == (k : Int)) = true := by simpa using hxk
            have HC1 := Lib.hid (show cnt (k : Int) (E.take (t + 1)) = cnt (k : Int) (E.take t) + 1 from by rw [HCT.out, if_pos (by simpa using hxk)])
            clear hxk
            generalize cnt (k : Int) (E.take t) = C at *
            go_wp2_with fail
            go_roundw
            case rel => exact ⟨trivial, t + 1, by omega, by go_num, by rw [HC1.out]; go_num⟩
            case measure => simp [intOf]; omega
          · have he : (x == (k : Int)) = false := by simpa using hxk
            have HC1 := Lib.hid (show cnt (k : Int) (E.take (t + 1)) = cnt (k : Int) (E.take t) from by rw [HCT.out, if_neg (by simpa using hxk)]; rfl)
            clear hxk
            generalize cnt (k : Int) (E.take t) = C at *
            go_wp2_with fail
            go_roundw
            case rel => exact ⟨trivial, t + 1, by omega, by go_num, by rw [HC1.out]⟩
            case measure => simp [intOf]; omega
        · obtain rfl : t = L.length := by omega
          have hd : decide ((L.length : Int) < (L.length : Int)) = false := decide_eq_false (by omega)
          have hTK : E.take L.length = E := List.take_of_length_le (by have := HEL.out; omega)
          rw [hTK]
          have y0 := Y0.out
          have HGK := Lib.hid (HGM.out (k : Int) k0)
          have HNX := Lib.hid (show fbS (1) E (k + 1) = (fbS (1) E k && decide (((gapS (k : Int) E).1 : Int) < 1)) from rfl)
          clear hTK
          generalize cnt (k : Int) E = C at *
          generalize ((gapS (k : Int) E).1 : Nat) = G at *
          generalize hFF : fbS (1) E k = F
          rw [hFF] at HNX
          have hcc : ((C : Int) != (C : Int)) = false := by simp
          clear hFF
          cases F with
          | true =>
            go_wp2_with fail
            refine (HRG.out (k : Int) _ HIr.out).mono ?_
            rintro e w5 ⟨rfl, hb5⟩
            have hB5 := Below.step hB hb5
            rw [← HGK.out]
            by_cases hgw : (G : Int) < 1
            · have HTR := Lib.hid (show fbS (1) E (k + 1) = true from by rw [HNX.out]; simp [hgw])
              go_wp2_with fail
              go_roundw
              case rel => exact ⟨k + 1, by omega, by go_num, by rw [HTR.out], hB5⟩
              case measure => simp [intOf]; omega
            · have hgd : decide ((G : Int) < 1) = false := decide_eq_false hgw
              have HTR := Lib.hid (show fbS (1) E (k + 1) = false from by rw [HNX.out]; simp [hgd])
              go_wp2_with fail
              go_roundw
              case rel => exact ⟨k + 1, by omega, by go_num, by rw [HTR.out], hB5⟩
              case measure => simp [intOf]; omega
          | false =>
            have HTR := Lib.hid (show fbS (1) E (k + 1) = false from by rw [HNX.out]; rfl)
            go_wp2_with fail
            go_roundw
            case rel => exact ⟨k + 1, by omega, by go_num, by rw [HTR.out], hB⟩
            case measure => simp [intOf]; omega
    · obtain rfl : k = m := by omega
      have hd : decide ((k : Int) < (k : Int)) = false := decide_eq_false (by omega)
      have hBr := Below.step hB4 hB
      have bR5 := bR4.below hB
      have HE5 := Lib.hid (HE4.out.below hB)
      have HI5 := Lib.hid (HI4.out.below hB)
      have HFm := Lib.hid (fun W (h : EAt W B E) => HFA.out B cp W h)
      generalize fbS (1) E k = F at *
      have hFF : (F == F) = true := by simp
      clear hB hB4 bR4 HE4 HI4 HC
      go_wp2_with fail
      refine (HRU.out B cp _ HE5.out).mono ?_
      rintro e w5 ⟨v5, rfl, hO5, hb5⟩
      have hB5 := Below.step hBr hb5
      have bR6 := bR5.below hb5
      have HE6 := Lib.hid (HE5.out.below hb5)
      have HI6 := Lib.hid (HI5.out.below hb5)
      rw [HEL.out, HRI.out] at hO5
      obtain ⟨A5, c5, rfl⟩ := own_shape hO5
      have HP5 := Lib.hid (PAt.of_own hO5)
      clear hb5 bR5 HE5 HI5 hO5 hBr
      go_wp2_with fail
      refine (HRR.out _ HI6.out).mono ?_
      rintro e w6 ⟨v6, rfl, hO6, hb6⟩
      have hB6 := Below.step hB5 hb6
      have bR7 := bR6.below hb6
      have HE7 := Lib.hid (HE6.out.below hb6)
      have HI7 := Lib.hid (HI6.out.below hb6)
      have HP6 := Lib.hid (HP5.out.below hb6)
      obtain ⟨A6, c6, rfl⟩ := own_shape hO6
      have HQ6 := Lib.hid (PAt.of_own hO6)
      have hrl : (rsI L L.length).length ≤ 100 := by have := bump_lenI L L.length; omega
      clear hb6 bR6 HE6 HI6 hO6 hB5 HP5
      generalize rsI L L.length = R at *
      have r1 : (R.length : Int) ≤ 100 := by omega
      have hRR : ((R.length : Int) != (R.length : Int)) = false := by simp
      go_wp2_with fail
      go_loopw [105] (fun i wr => ∃ t : Nat, t ≤ R.length ∧ i = .int .i64 (t : Int) ∧ Below w6.heap.size w6 wr) (fun i _ => R.length + 1 - (intOf i).toNat)
      case atStart => exact ⟨0, Nat.zero_le _, rfl, Below.refl _ _⟩
      case round =>
        rename_i wz
        obtain ⟨t, ht, rfl, hBt⟩ := hrel
        have t0 : (0 : Int) ≤ (t : Int) := by omega
        by_cases htl : t < R.length
        · have t1 : (t : Int) < (R.length : Int) := by omega
          obtain ⟨q, hq⟩ : ∃ e, R[t]? = some e := ⟨_, List.getElem?_eq_getElem htl⟩
          obtain ⟨g5, hA5, x0, x1⟩ := (HP6.out.below hBt).at_ t q hq
          obtain ⟨g6, hA6, x2, x3⟩ := (HQ6.out.below hBt).at_ t q hq
          subst hA5
          subst hA6
          obtain ⟨q1, q2⟩ := q
          dsimp only at x0 x1 x2 x3
          have hqq : ∀ W, (Op.equalIn 10000 57 (.agg #[.int .i64 q1, .int .i64 q2]) (.agg #[.int .i64 q1, .int .i64 q2])).run Try.prog W = .ok true W := fun W => by rw [eqA]; simp
          go_wp2_with fail
          go_region
          go_wp2_with fail
          go_roundw
          case rel => exact ⟨t + 1, by omega, by go_num, Below.drew hBt⟩
          case measure => simp [intOf]; omega
        · obtain rfl : t = R.length := by omega
          have hd2 : decide ((R.length : Int) < (R.length : Int)) = false := decide_eq_false (by omega)
          have hB7 := Below.step hB6 hBt
          have bR8 := bR7.below hBt
          have HE8 := Lib.hid (HE7.out.below hBt)
          have HI8 := Lib.hid (HI7.out.below hBt)
          clear hB6 hBt bR7 HE7 HI7 HP6 HQ6
          by_cases hag : 0 ≤ ag
          · have HGK := Lib.hid (HGM.out ag hag)
            go_wp2_with fail
            refine (HGA.out ag B cp _ HE8.out).mono ?_
            rintro e w7 ⟨rfl, hb7⟩
            have hB8 := Below.step hB7 hb7
            have bR9 := bR8.below hb7
            have HE9 := Lib.hid (HE8.out.below hb7)
            have HI9 := Lib.hid (HI8.out.below hb7)
            clear hb7 hB7 bR8 HE8 HI8
            go_wp2_with fail
            refine (HRG.out ag _ HI9.out).mono ?_
            rintro e w8 ⟨rfl, hb8⟩
            have hB9 := Below.step hB8 hb8
            have bR10 := bR9.below hb8
            have HE10 := Lib.hid (HE9.out.below hb8)
            clear hb8 hB8 bR9 HE9 HI9
            rw [← HGK.out]
            generalize ((gapS ag E).1 : Nat) = G at *
            have hGG : ((G : Int) != (G : Int)) = false := by simp
            go_wp2_with fail
            refine (awake21 _).mono ?_
            rintro e w9 ⟨rfl, hb9⟩
            have hB11 := Below.step hB9 hb9
            have bR11 := bR10.below hb9
            have HE11 := Lib.hid (HE10.out.below hb9)
            obtain ⟨⟨c0, c1, c2, c3, c4, c5', c6'⟩, hlx⟩ := id bR11
            clear hb9 hB9 bR10 HE10
            go_wp2_with fail
            refine (HFm.out _ HE11.out).mono ?_
            rintro e w10 ⟨rfl, hb10⟩
            have hB12 := Below.step hB11 hb10
            go_wp2_with fail
            go_ret
            exact ⟨rfl, hB12⟩
          · have hagd : decide (0 ≤ ag) = false := decide_eq_false hag
            go_wp2_with fail
            refine (awake21 _).mono ?_
            rintro e w9 ⟨rfl, hb9⟩
            have hB11 := Below.step hB7 hb9
            have bR11 := bR8.below hb9
            have HE11 := Lib.hid (HE8.out.below hb9)
            obtain ⟨⟨c0, c1, c2, c3, c4, c5', c6'⟩, hlx⟩ := id bR11
            clear hb9 hB7 bR8 HE8
            go_wp2_with fail
            refine (HFm.out _ HE11.out).mono ?_
            rintro e w10 ⟨rfl, hb10⟩
            have hB12 := Below.step hB11 hb10
            go_wp2_with fail
            go_ret
            exact ⟨rfl, hB12⟩
theorem walk (a0_0 a0_1 a0_2 a0_3 a0_4 a0_5 a0_6 : Int) (a1 : Option Addr) (len1 cap1 : Nat) (z1 : List Int) (a2 a3 : Int) (w : World) (_ : (Lit.int .i64 a0_0).wf = true) (_ : (Lit.int .i64 a0_1).wf = true) (_ : (Lit.int .i64 a0_2).wf = true) (_ : (Lit.int .i64 a0_3).wf = true) (_ : (Lit.int .i64 a0_4).wf = true) (_ : (Lit.int .i64 a0_5).wf = true) (_ : (Lit.int .i64 a0_6).wf = true) (w1 : IsRow .i64 w a1 len1 cap1 z1) (_ : (Lit.int .i64 a2).wf = true) (_ : (Lit.int .i64 a3).wf = true) :
    Calls Try.prog 6 #[.agg #[.int .i64 a0_0, .int .i64 a0_1, .int .i64 a0_2, .int .i64 a0_3, .int .i64 a0_4, .int .i64 a0_5, .int .i64 a0_6], .slice a1 len1 cap1, .int .i64 a2, .int .i64 a3] w fun e w' => e = .returned (.bool true) ∧ Below w.heap.size w w' := by
  by_cases h : (1 ≤ a0_0 ∧ a0_0 ≤ 6) ∧ (1 ≤ a0_1 ∧ a0_1 ≤ 4) ∧ (1 ≤ a0_2 ∧ a0_2 ≤ 3) ∧ (1 ≤ a0_3 ∧ a0_3 ≤ 4) ∧ (0 ≤ a0_4 ∧ a0_4 ≤ 4) ∧ (1 ≤ a0_5 ∧ a0_5 ≤ 4) ∧ (1 ≤ a0_6 ∧ a0_6 ≤ 15)
  · obtain ⟨hp, hc, hn, hb, hr, hf, hg⟩ := h
    have hnb := mul12 hn hb
    by_cases hl : len1 ≤ 100
    · obtain ⟨hI, hlen⟩ := IAt.of w1
      have hm : (((a0_0 + 2 * (a0_2 * a0_3)).toNat : Nat) : Int) = a0_0 + 2 * (a0_2 * a0_3) := by omega
      rw [← hlen]
      by_cases hw : 1 < a3
      · exact main_le _ _ _ _ _ _ _ a2 a3 (a0_0 + 2 * (a0_2 * a0_3)).toNat a1 cap1 _ w hp hc hn hb hr hf hg hm hI (by omega) hw
      · exact main_gt _ _ _ _ _ _ _ a2 a3 (a0_0 + 2 * (a0_2 * a0_3)).toNat a1 cap1 _ w hp hc hn hb hr hf hg hm hI (by omega) (by omega)
    · refine long _ _ _ _ _ _ _ a2 a3 a1 len1 cap1 w hp hc hn hb hr hf hg (by omega) ?_
      rcases w1 with ⟨rfl, rfl, rfl, rfl⟩ | ⟨x, rfl, hlc, hcm, _⟩
      · omega
      · unfold maxLen at hcm; omega
  · exact bad _ _ _ _ _ _ _ a2 a3 a1 len1 cap1 w h
end Go.Proofs.Ytdlgpbmeeiakdaa.planCounts

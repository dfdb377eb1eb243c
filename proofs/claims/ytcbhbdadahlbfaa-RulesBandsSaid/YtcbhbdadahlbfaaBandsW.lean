/-
  The walk of RulesBands.
-/
import Derived.Test.YtcbhbdadahlbfaaRows
import Derived.WalkKit
import Derived.ProofKit
import Derived.OpenShut
import Derived.ShutString
import Derived.Below
import Derived.Outline
import Derived.WalkLawsBesides
import Derived.WalkSpells
import Derived.Handy
import Derived.Deep.QuietTactic
import Derived.BigQuiet
import Derived.RegionTactic
import Derived.ChangeAlike
import Derived.Lib.Hide
import Derived.Laws.Rows
import Derived.Laws.Tables
import Derived.Laws.CopyOwn
import Derived.Deep.WholeRow
import Derived.Deep.LoopGhost
import Derived.Laws.BitsAllLaws
import Derived.Laws.BitsLemmas
import Derived.IntWalk
import Derived.Test.YtcbhbdadahlbfaaKit
import Derived.Test.YtcbhbdadahlbfaaLay
import Derived.Test.YtcbhbdadahlbfaaApp
import Derived.Deep.RegionLaw
import Derived.Deep.RegionHeld3
import Derived.Deep.RegionWith
import Derived.Deep.Cut
import Derived.Deep.CutRange
import Derived.Deep.DeepCutAuto
import Derived.Test.YtcbhbdadahlbfaaBands
import Derived.Test.YtcbhbdadahlbfaaCheck
namespace Go.Proofs.Ytcbhbdadahlbfaa.rulesBands
open Go.ChangeShapes Go.WideShapes Go.ChangeAt Go.RowKit
/-- What the loads read: a block with the rules, and one with the configuration. -/
def Cz (w : World) (A B : Nat) (p c n b r f g : Int) (wx : World) : Prop := ((wx.cell? ⟨A, 0, none⟩ = some (.int .i64 p) ∧ wx.cell? ⟨A, 1, none⟩ = some (.int .i64 c) ∧ wx.cell? ⟨A, 2, none⟩ = some (.int .i64 n) ∧ wx.cell? ⟨A, 3, none⟩ = some (.int .i64 b) ∧ wx.cell? ⟨A, 4, none⟩ = some (.int .i64 r) ∧ wx.cell? ⟨A, 5, none⟩ = some (.int .i64 f) ∧ wx.cell? ⟨A, 6, none⟩ = some (.int .i64 g)) ∧ (wx.cell? ⟨B, 0, none⟩ = some (.int .i64 p) ∧ wx.cell? ⟨B, 1, none⟩ = some (.int .i64 c) ∧ wx.cell? ⟨B, 2, none⟩ = some (.int .i64 n) ∧ wx.cell? ⟨B, 3, none⟩ = some (.int .i64 b) ∧ wx.cell? ⟨B, 4, none⟩ = some (.int .i64 r) ∧ wx.cell? ⟨B, 5, none⟩ = some (.int .i64 f) ∧ wx.cell? ⟨B, 6, none⟩ = some (.int .i64 g))) ∧ A < wx.heap.size ∧ B < wx.heap.size ∧ Below w.heap.size w wx
section
variable {w wx wy : World} {A B : Nat} {p c n b r f g : Int}
theorem Cz.below (h : Cz w A B p c n b r f g wx) (hb : Below wx.heap.size wx wy) : Cz w A B p c n b r f g wy := by
  obtain ⟨⟨⟨c0, c1, c2, c3, c4, c5, c6⟩, ⟨d0, d1, d2, d3, d4, d5, d6⟩⟩, ha, hB, hw⟩ := h
  have ea : ∀ o, wy.cell? ⟨A, o, none⟩ = wx.cell? ⟨A, o, none⟩ := fun o => hb.cell (p := ⟨A, o, none⟩) ha
  have eb : ∀ o, wy.cell? ⟨B, o, none⟩ = wx.cell? ⟨B, o, none⟩ := fun o => hb.cell (p := ⟨B, o, none⟩) hB
  exact ⟨⟨⟨(ea 0).trans c0, (ea 1).trans c1, (ea 2).trans c2, (ea 3).trans c3, (ea 4).trans c4, (ea 5).trans c5, (ea 6).trans c6⟩, ⟨(eb 0).trans d0, (eb 1).trans d1, (eb 2).trans d2, (eb 3).trans d3, (eb 4).trans d4, (eb 5).trans d5, (eb 6).trans d6⟩⟩, Nat.lt_of_lt_of_le ha hb.size, Nat.lt_of_lt_of_le hB hb.size, Below.step hw hb⟩
theorem call_cz {fn : FuncId} {args : Array Value} {v : Value} (hT : ∀ W, Calls Try.prog fn args W fun e w' => e = .returned v ∧ Below W.heap.size W w') (h : Cz w A B p c n b r f g wx) : Calls Try.prog fn args wx fun e w' => e = .returned v ∧ Cz w A B p c n b r f g w' :=
  (hT wx).mono fun _ _ ⟨he, hb⟩ => ⟨he, h.below hb⟩
theorem region_cz {P : Program} {id : Nat} {Q : Exit → Act → World → Prop} {a : Act} {W : World} {l' : List Oper} (hm : P.follows .mixedOrders = true) (hB : Region.lexB .any l'.toArray = true) (hC : Cz w A B p c n b r f g W.drew)
    (h : wpQuiet P l'.toArray (Cz w A B p c n b r f g) (fun a' => ∀ w', Cz w A B p c n b r f g w' → Q .normal a' w') l' a) : (Code.region id l'.toArray true).wp P Q a W := wp_region_quiet (C := Cz w A B p c n b r f g) hm hB hC (by simpa using h)
end

def RowV (w : World) (A : Option Addr) (m : Nat) (L : List Int) : Prop := L.length = m ∧ ∀ k, k < m → ∃ g off, A = some ⟨g, off, none⟩ ∧ g < w.heap.size ∧ w.cell? ⟨g, off + k, none⟩ = some (.int .i64 (L.getD k 0))
theorem rowV_below {A : Option Addr} {m : Nat} {L : List Int} {w w' : World} (h : RowV w A m L) (hb : Below w.heap.size w w') : RowV w' A m L := ⟨h.1, fun k hk => by
  obtain ⟨g, off, e, hg, hc⟩ := h.2 k hk
  exact ⟨g, off, e, Nat.lt_of_lt_of_le hg hb.size, (hb.cell (p := ⟨g, off + k, none⟩) hg).trans hc⟩⟩
theorem rowV_of {w : World} {base : Nat} {v : Value} {L : List Int} (h : w.ownsRow base 3 1 v L.length (L.map (Value.int .i64))) : ∃ A c, v = .slice A L.length c ∧ RowV w A L.length L := by
  have h' := h
  rcases h.2 with ⟨rfl, h0⟩ | ⟨g, cap, cur, rfl, hg, hh, rest⟩
  · rw [h0]
    exact ⟨_, _, rfl, h0, fun k hk => absurd hk (Nat.not_lt_zero k)⟩
  · refine ⟨_, _, rfl, rfl, fun k hk => ⟨g, 0, rfl, ?_, ?_⟩⟩
    · rcases Nat.lt_or_ge g w.heap.size with hlt | hge
      · exact hlt
      · rw [Array.getElem?_eq_none hge] at hh; cases hh
    · have := h'.cellAt k (by omega)
      rw [Nat.zero_add, this, List.getElem?_map, List.getElem?_eq_getElem hk, List.getD_eq_getElem?_getD, List.getElem?_eq_getElem hk]
      rfl
theorem rowC {fn : FuncId} {args : Array Value} {L : List Int} {W : World} (h : Calls Try.prog fn args W (Row W L)) : Calls Try.prog fn args W fun e w' => ∃ A c, e = .returned (.slice A L.length c) ∧ RowV w' A L.length L ∧ Below W.heap.size W w' :=
  h.mono fun e w' ⟨v, he, ho, hb⟩ => by
    obtain ⟨A, c, rfl, hr⟩ := rowV_of ho
    exact ⟨A, c, he, hr, hb⟩

/-- What region 5 and the loops read: the rules, the configuration, and rows. -/
def Cw (w : World) (a b' : Nat) (p c n b r f g : Int) (A B : Option Addr) (L : List Int) (wx : World) : Prop := Cz w a b' p c n b r f g wx ∧ RowV wx A L.length L ∧ RowV wx B L.length L
section
variable {w wx wy : World} {a b' : Nat} {p c n b r f g : Int} {A B : Option Addr} {L : List Int}
theorem Cw.below (h : Cw w a b' p c n b r f g A B L wx) (hb : Below wx.heap.size wx wy) : Cw w a b' p c n b r f g A B L wy := ⟨h.1.below hb, rowV_below h.2.1 hb, rowV_below h.2.2 hb⟩
theorem call_cw {fn : FuncId} {args : Array Value} {v : Value} (hT : ∀ W, Calls Try.prog fn args W fun e w' => e = .returned v ∧ Below W.heap.size W w') (h : Cw w a b' p c n b r f g A B L wx) : Calls Try.prog fn args wx fun e w' => e = .returned v ∧ Cw w a b' p c n b r f g A B L w' :=
  (hT wx).mono fun _ _ ⟨he, hb⟩ => ⟨he, h.below hb⟩
theorem region_cw {P : Program} {id : Nat} {Q : Exit → Act → World → Prop} {a' : Act} {W : World} {l' : List Oper} (hm : P.follows .mixedOrders = true) (hB : Region.lexB .any l'.toArray = true) (hC : Cw w a b' p c n b r f g A B L W.drew)
    (h : wpQuiet P l'.toArray (Cw w a b' p c n b r f g A B L) (fun a' => ∀ w', Cw w a b' p c n b r f g A B L w' → Q .normal a' w') l' a') : (Code.region id l'.toArray true).wp P Q a' W := wp_region_quiet (C := Cw w a b' p c n b r f g A B L) hm hB hC (by simpa using h)
end
/-- Is a number among the first of a row? -/
def anyv (L : List Int) (t : Int) : Nat → Bool
  | 0 => false
  | k + 1 => anyv L t k || (L.getD k 0 == t)
theorem below_dn {B : Nat} {a w : World} (h : Below B a w) (n : Nat) : Below B a (w.drewN n) := ⟨h.os, h.tape, h.output, h.size, h.block⟩

set_option maxRecDepth 100000 in
set_option maxHeartbeats 8000000 in
theorem mainA (p c n b r f g s x y o : Int) (L : List Int) (w : World)
    (hNew : ∀ W, Calls Try.prog 29 #[.agg #[.int .i64 p, .int .i64 c, .int .i64 n, .int .i64 b, .int .i64 r, .int .i64 f, .int .i64 g]] W (RNewOk W p c n b r f g)) (hCh : ∀ W, Calls Try.prog 30 #[.agg #[.int .i64 p, .int .i64 c, .int .i64 n, .int .i64 b, .int .i64 r, .int .i64 f, .int .i64 g]] W fun e w' => e = .returned (.int .i64 (-1)) ∧ Below W.heap.size W w')
    (h37 : ∀ W, Calls Try.prog 37 #[.agg #[.int .i64 p, .int .i64 c, .int .i64 n, .int .i64 b, .int .i64 r, .int .i64 f, .int .i64 g], .int .i64 s, .int .i64 x] W (Row W L)) (h38 : ∀ W, Calls Try.prog 38 #[.agg #[.int .i64 p, .int .i64 c, .int .i64 n, .int .i64 b, .int .i64 r, .int .i64 f, .int .i64 g], .int .i64 s, .int .i64 x] W (Row W L))
    (h39 : ∀ W, Calls Try.prog 39 #[.agg #[.int .i64 p, .int .i64 c, .int .i64 n, .int .i64 b, .int .i64 r, .int .i64 f, .int .i64 g], .int .i64 x] W fun e w' => e = .returned (.int .i64 o) ∧ Below W.heap.size W w') (h40 : ∀ W, Calls Try.prog 40 #[.agg #[.int .i64 p, .int .i64 c, .int .i64 n, .int .i64 b, .int .i64 r, .int .i64 f, .int .i64 g], .int .i64 x] W fun e w' => e = .returned (.int .i64 o) ∧ Below W.heap.size W w') (hL : L.length ≤ 100) (hout : x < 1 ∨ (1 ≤ x ∧ 9999 < x) ∨ (1 ≤ x ∧ x ≤ 9999 ∧ y < 1) ∨ (1 ≤ x ∧ x ≤ 9999 ∧ 1 ≤ y ∧ x < y)) :
    Calls Try.prog 8 #[.agg #[.int .i64 p, .int .i64 c, .int .i64 n, .int .i64 b, .int .i64 r, .int .i64 f, .int .i64 g], .int .i64 s, .int .i64 x, .int .i64 y] w fun e w' => e = .returned (.bool true) ∧ Below w.heap.size w w' := by
  have HNEW := Lib.hid hNew
  have HCH := Lib.hid hCh
  have H37 := Lib.hid (fun W => rowC (h37 W))
  have H38 := Lib.hid (fun W => rowC (h38 W))
  have H39 := Lib.hid h39
  have H40 := Lib.hid h40
  have HOUT := Lib.hid hout
  clear hNew hCh h37 h38 h39 h40 hout
  have too : (o != o) = false := by simp
  go_enter Try.func8, Try.ntmps8
  go_wp2_with fail
  refine (HNEW.out _).mono ?_
  rintro e w1 ⟨rfl, hb1⟩
  have hz1 := hb1.size
  simp only [World.size_alloc] at hz1
  have hlt : w.heap.size < w1.heap.size := by omega
  have hB1 : Below w.heap.size w w1 := Below.step (by go_grown) hb1
  have hK : Cz w w.heap.size w1.heap.size p c n b r f g (w1.alloc (Obj.cells #[.int .i64 p, .int .i64 c, .int .i64 n, .int .i64 b, .int .i64 r, .int .i64 f, .int .i64 g] 67)) := by
    have ec : ∀ o, (w1.alloc (Obj.cells #[.int .i64 p, .int .i64 c, .int .i64 n, .int .i64 b, .int .i64 r, .int .i64 f, .int .i64 g] 67)).cell? ⟨w.heap.size, o, none⟩ = (w.alloc (Obj.cells #[.int .i64 p, .int .i64 c, .int .i64 n, .int .i64 b, .int .i64 r, .int .i64 f, .int .i64 g] 65)).cell? ⟨w.heap.size, o, none⟩ := fun o =>
      (World.cell?_alloc_lt w1 _ ⟨w.heap.size, o, none⟩ hlt).trans (hb1.cell (p := ⟨w.heap.size, o, none⟩) (by simp))
    refine ⟨⟨⟨?_, ?_, ?_, ?_, ?_, ?_, ?_⟩, ⟨?_, ?_, ?_, ?_, ?_, ?_, ?_⟩⟩, by simp; omega, by simp, by go_grown⟩
    all_goals first | (rw [ec]; simp [go_sem]; done) | (simp [go_sem]; done)
  obtain ⟨hc1, hf1⟩ := bcell hb1
  simp only [World.size_alloc] at hc1 hf1
  go_wp2_with fail
  refine (HCH.out _).mono ?_
  rintro e w2 ⟨rfl, hb2⟩
  have HK2 := Lib.hid (hK.below hb2)
  clear hK hb1 hc1 hf1 hb2 hB1
  have hK2 := HK2.out
  obtain ⟨⟨⟨c0, c1, c2, c3, c4, c5, c6⟩, ⟨d0, d1, d2, d3, d4, d5, d6⟩⟩, hl1, hl2, hB2⟩ := hK2
  go_upto_region 4 with fail
  go_cut [11, 12] (fun s11 s12 wx => Cz w w.heap.size w1.heap.size p c n b r f g wx ∧ ∃ A c1 B c2, s11 = .slice A L.length c1 ∧ s12 = .slice B L.length c2 ∧ RowV wx A L.length L ∧ RowV wx B L.length L)
  case first =>
    have HK2D := Lib.hid (HK2.out.below (wy := w2.drew) (by go_grown))
    go_region_with (first
        | (go_at_call 37; (with_reducible refine (H37.out _).mono ?_); rintro e wa ⟨A, ca, rfl, hA, hbwa⟩; have hKwa := (HK2D.out).below hbwa; obtain ⟨⟨⟨_, _, _, _, _, _, _⟩, ⟨_, _, _, _, _, _, _⟩⟩, _, _, _⟩ := id hKwa)
        | (go_at_call 38; (with_reducible refine (H38.out _).mono ?_); rintro e wb ⟨B, cb, rfl, hBr, hbwb⟩; have hKwb := (HK2D.out).below hbwb; obtain ⟨⟨⟨_, _, _, _, _, _, _⟩, ⟨_, _, _, _, _, _, _⟩⟩, _, _, _⟩ := id hKwb)
        | (go_at_call 38; (with_reducible refine (H38.out _).mono ?_); rintro e wc2 ⟨B, cb, rfl, hBr, hbwc2⟩; have hKwc2 := (hKwa).below hbwc2; have hA2 := rowV_below hA hbwc2; obtain ⟨⟨⟨_, _, _, _, _, _, _⟩, ⟨_, _, _, _, _, _, _⟩⟩, _, _, _⟩ := id hKwc2)
        | (go_at_call 37; (with_reducible refine (H37.out _).mono ?_); rintro e wd ⟨A, ca, rfl, hA, hbwd⟩; have hKwd := (hKwb).below hbwd; have hB2r := rowV_below hBr hbwd; obtain ⟨⟨⟨_, _, _, _, _, _, _⟩, ⟨_, _, _, _, _, _, _⟩⟩, _, _, _⟩ := id hKwd)
        | fail)
    all_goals (go_wp2_with fail; go_meet)
    all_goals first
      | exact ⟨hKwc2, A, ca, B, cb, rfl, rfl, hA2, hBr⟩
      | exact ⟨hKwd, A, ca, B, cb, rfl, rfl, hA, hB2r⟩
  case rest =>
    clear c0 c1 c2 c3 c4 c5 c6 d0 d1 d2 d3 d4 d5 d6 hl1 hl2 hB2
    obtain ⟨hK3, A, ca, B, cb, rfl, rfl, hA, hBr⟩ := hcut
    have HA := Lib.hid hA
    have HBr := Lib.hid hBr
    have HK3 := Lib.hid hK3
    clear hA hBr
    go_wp2_with fail
    refine region_cw (A := A) (B := B) (L := L) (by kernel_rfl) (by kernel_rfl) (Cw.below ⟨HK3.out, HA.out, HBr.out⟩ (by go_grown)) ?_
    clear hK3
    go_big_quiet_want
    refine ⟨.agg #[.int .i64 p, .int .i64 c, .int .i64 n, .int .i64 b, .int .i64 r, .int .i64 f, .int .i64 g], fun wq hq => ?_, ?_⟩
    · obtain ⟨⟨⟨_, ⟨q0, q1, q2, q3, q4, q5, q6⟩⟩, _, _, _⟩, _⟩ := hq
      unfold Oper.quietAt
      simp [go_sem, q0, q1, q2, q3, q4, q5, q6, Oper.quietUpon]
    simp only [Act.put, List.setIfInBounds_toArray, List.set_cons_zero, List.set_cons_succ]
    go_big_quiet_on
    iterate 1 (first | go_big_quiet_skip | (go_big_quiet_want; go_big_quiet_op; first | go_big_quiet_on | (refine ⟨_, fun _ _ => rfl, ?_⟩; go_big_quiet_on)))
    go_big_quiet_want
    go_big_quiet_op
    refine ⟨.int .i64 o, fun wq hq => call_cw H39.out hq, ?_⟩
    go_big_quiet_on
    go_big_quiet_want
    refine ⟨.agg #[.int .i64 p, .int .i64 c, .int .i64 n, .int .i64 b, .int .i64 r, .int .i64 f, .int .i64 g], fun wq hq => ?_, ?_⟩
    · obtain ⟨⟨⟨⟨q0, q1, q2, q3, q4, q5, q6⟩, _⟩, _, _, _⟩, _⟩ := hq
      unfold Oper.quietAt
      simp [go_sem, q0, q1, q2, q3, q4, q5, q6, Oper.quietUpon]
    simp only [Act.put, List.setIfInBounds_toArray, List.set_cons_zero, List.set_cons_succ]
    go_big_quiet_on
    iterate 1 (first | go_big_quiet_skip | (go_big_quiet_want; go_big_quiet_op; first | go_big_quiet_on | (refine ⟨_, fun _ _ => rfl, ?_⟩; go_big_quiet_on)))
    go_big_quiet_want
    go_big_quiet_op
    refine ⟨.int .i64 o, fun wq hq => call_cw H40.out hq, ?_⟩
    go_big_quiet_on
    iterate 8 (first | go_big_quiet_skip | (go_big_quiet_want; go_big_quiet_op; first | go_big_quiet_on | (refine ⟨_, fun _ _ => rfl, ?_⟩; go_big_quiet_on)))
    refine wpQuiet_nil ?_
    intro w4 hK4
    have HK4 := Lib.hid hK4
    clear hK4
    go_wp2_with fail
    go_loopw [57] (fun i wr => ∃ k : Nat, k ≤ L.length ∧ i = .int .i64 k ∧ Hid (Cw w w.heap.size w1.heap.size p c n b r f g A B L wr)) (fun i _ => L.length - (intOf i).toNat)
    case atStart => exact ⟨0, Nat.zero_le _, rfl, HK4⟩
    case round =>
      obtain ⟨k, hk, rfl, HW⟩ := hrel
      by_cases hlt' : k < L.length
      · obtain ⟨ga, oa, rfl, hga, cA⟩ := HW.out.2.1.2 k hlt'
        obtain ⟨gb, ob, rfl, hgb, cB⟩ := HW.out.2.2.2 k hlt'
        generalize L.getD k 0 = v at cA cB
        have tv : (v != v) = false := by simp
        have i0 : (0 : Int) ≤ (k : Int) := Int.natCast_nonneg k
        have i1 : (k : Int) < (L.length : Int) := by omega
        go_wp2_with fail
        go_quiet (fail)
        go_wp2
        go_roundw
        case rel => exact ⟨k + 1, by omega, by go_num, HW.out.below (below_dn (Below.refl _ _) _)⟩
        case measure => simp [intOf]; omega
      · obtain rfl : k = L.length := by omega
        have hBz := HW.out.1.2.2.2
        have hKz := HW.out.1
        clear HK4 HK3 HA HBr
        rcases HOUT.out with h | ⟨h1, h⟩ | ⟨h1, h2, h⟩ | ⟨h1, h2, h3, h⟩
        · clear hKz
          go_wp2_with fail
          refine (awake31 _).mono ?_
          rintro e w5 ⟨rfl, hb5⟩
          go_wp2
          go_ret
          exact ⟨rfl, Below.step hBz hb5⟩
        · clear hKz
          go_wp2_with fail
          refine (awake31 _).mono ?_
          rintro e w5 ⟨rfl, hb5⟩
          go_wp2
          go_ret
          exact ⟨rfl, Below.step hBz hb5⟩
        · clear hKz
          go_wp2_with fail
          refine (awake31 _).mono ?_
          rintro e w5 ⟨rfl, hb5⟩
          go_wp2
          go_ret
          exact ⟨rfl, Below.step hBz hb5⟩
        · clear hKz
          go_wp2_with fail
          refine (awake31 _).mono ?_
          rintro e w5 ⟨rfl, hb5⟩
          go_wp2
          go_ret
          exact ⟨rfl, Below.step hBz hb5⟩

set_option maxRecDepth 100000 in
set_option maxHeartbeats 8000000 in
theorem mainB (p c n b r f g s x y o o2 : Int) (L L1 L2 : List Int) (w : World)
    (hNew : ∀ W, Calls Try.prog 29 #[.agg #[.int .i64 p, .int .i64 c, .int .i64 n, .int .i64 b, .int .i64 r, .int .i64 f, .int .i64 g]] W (RNewOk W p c n b r f g)) (hCh : ∀ W, Calls Try.prog 30 #[.agg #[.int .i64 p, .int .i64 c, .int .i64 n, .int .i64 b, .int .i64 r, .int .i64 f, .int .i64 g]] W fun e w' => e = .returned (.int .i64 (-1)) ∧ Below W.heap.size W w')
    (h37 : ∀ W, Calls Try.prog 37 #[.agg #[.int .i64 p, .int .i64 c, .int .i64 n, .int .i64 b, .int .i64 r, .int .i64 f, .int .i64 g], .int .i64 s, .int .i64 x] W (Row W L)) (h38 : ∀ W, Calls Try.prog 38 #[.agg #[.int .i64 p, .int .i64 c, .int .i64 n, .int .i64 b, .int .i64 r, .int .i64 f, .int .i64 g], .int .i64 s, .int .i64 x] W (Row W L))
    (h39 : ∀ W, Calls Try.prog 39 #[.agg #[.int .i64 p, .int .i64 c, .int .i64 n, .int .i64 b, .int .i64 r, .int .i64 f, .int .i64 g], .int .i64 x] W fun e w' => e = .returned (.int .i64 o) ∧ Below W.heap.size W w') (h40 : ∀ W, Calls Try.prog 40 #[.agg #[.int .i64 p, .int .i64 c, .int .i64 n, .int .i64 b, .int .i64 r, .int .i64 f, .int .i64 g], .int .i64 x] W fun e w' => e = .returned (.int .i64 o) ∧ Below W.heap.size W w') (hL : L.length ≤ 100) (x1 : 1 ≤ x) (x2 : x ≤ 9999) (y1 : 1 ≤ y) (yx : y ≤ x) (hl1 : L1.length ≤ 100) (hl2 : L2.length ≤ 100)
    (hc1 : ∀ W, Calls Try.prog 37 #[.agg #[.int .i64 p, .int .i64 c, .int .i64 n, .int .i64 b, .int .i64 r, .int .i64 f, .int .i64 g], .int .i64 0, .int .i64 x] W (Row W L1)) (hc2 : ∀ W, Calls Try.prog 37 #[.agg #[.int .i64 p, .int .i64 c, .int .i64 n, .int .i64 b, .int .i64 r, .int .i64 f, .int .i64 g], .int .i64 1, .int .i64 y] W (Row W L2)) (h39y : ∀ W, Calls Try.prog 39 #[.agg #[.int .i64 p, .int .i64 c, .int .i64 n, .int .i64 b, .int .i64 r, .int .i64 f, .int .i64 g], .int .i64 y] W fun e w' => e = .returned (.int .i64 o2) ∧ Below W.heap.size W w')
    (hlow : anyv L1 o2 L1.length = true) (hhigh : anyv L2 o L2.length = true) :
    Calls Try.prog 8 #[.agg #[.int .i64 p, .int .i64 c, .int .i64 n, .int .i64 b, .int .i64 r, .int .i64 f, .int .i64 g], .int .i64 s, .int .i64 x, .int .i64 y] w fun e w' => e = .returned (.bool true) ∧ Below w.heap.size w w' := by
  have HNEW := Lib.hid hNew
  have HCH := Lib.hid hCh
  have H37 := Lib.hid (fun W => rowC (h37 W))
  have H38 := Lib.hid (fun W => rowC (h38 W))
  have H39 := Lib.hid h39
  have H40 := Lib.hid h40
  have HL1 := Lib.hid (fun W => rowC (hc1 W))
  have HL2 := Lib.hid (fun W => rowC (hc2 W))
  have H39Y := Lib.hid h39y
  have HLOW := Lib.hid hlow
  have HHIGH := Lib.hid hhigh
  clear hNew hCh h37 h38 h39 h40 hc1 hc2 h39y hlow hhigh
  have too : (o != o) = false := by simp
  go_enter Try.func8, Try.ntmps8
  go_wp2_with fail
  refine (HNEW.out _).mono ?_
  rintro e w1 ⟨rfl, hb1⟩
  have hz1 := hb1.size
  simp only [World.size_alloc] at hz1
  have hlt : w.heap.size < w1.heap.size := by omega
  have hB1 : Below w.heap.size w w1 := Below.step (by go_grown) hb1
  have hK : Cz w w.heap.size w1.heap.size p c n b r f g (w1.alloc (Obj.cells #[.int .i64 p, .int .i64 c, .int .i64 n, .int .i64 b, .int .i64 r, .int .i64 f, .int .i64 g] 67)) := by
    have ec : ∀ o, (w1.alloc (Obj.cells #[.int .i64 p, .int .i64 c, .int .i64 n, .int .i64 b, .int .i64 r, .int .i64 f, .int .i64 g] 67)).cell? ⟨w.heap.size, o, none⟩ = (w.alloc (Obj.cells #[.int .i64 p, .int .i64 c, .int .i64 n, .int .i64 b, .int .i64 r, .int .i64 f, .int .i64 g] 65)).cell? ⟨w.heap.size, o, none⟩ := fun o =>
      (World.cell?_alloc_lt w1 _ ⟨w.heap.size, o, none⟩ hlt).trans (hb1.cell (p := ⟨w.heap.size, o, none⟩) (by simp))
    refine ⟨⟨⟨?_, ?_, ?_, ?_, ?_, ?_, ?_⟩, ⟨?_, ?_, ?_, ?_, ?_, ?_, ?_⟩⟩, by simp; omega, by simp, by go_grown⟩
    all_goals first | (rw [ec]; simp [go_sem]; done) | (simp [go_sem]; done)
  obtain ⟨hc1, hf1⟩ := bcell hb1
  simp only [World.size_alloc] at hc1 hf1
  go_wp2_with fail
  refine (HCH.out _).mono ?_
  rintro e w2 ⟨rfl, hb2⟩
  have HK2 := Lib.hid (hK.below hb2)
  clear hK hb1 hc1 hf1 hb2 hB1
  have hK2 := HK2.out
  obtain ⟨⟨⟨c0, c1, c2, c3, c4, c5, c6⟩, ⟨d0, d1, d2, d3, d4, d5, d6⟩⟩, hl1, hl2, hB2⟩ := hK2
  go_upto_region 4 with fail
  go_cut [11, 12] (fun s11 s12 wx => Cz w w.heap.size w1.heap.size p c n b r f g wx ∧ ∃ A c1 B c2, s11 = .slice A L.length c1 ∧ s12 = .slice B L.length c2 ∧ RowV wx A L.length L ∧ RowV wx B L.length L)
  case first =>
    have HK2D := Lib.hid (HK2.out.below (wy := w2.drew) (by go_grown))
    go_region_with (first
        | (go_at_call 37; (with_reducible refine (H37.out _).mono ?_); rintro e wa ⟨A, ca, rfl, hA, hbwa⟩; have hKwa := (HK2D.out).below hbwa; obtain ⟨⟨⟨_, _, _, _, _, _, _⟩, ⟨_, _, _, _, _, _, _⟩⟩, _, _, _⟩ := id hKwa)
        | (go_at_call 38; (with_reducible refine (H38.out _).mono ?_); rintro e wb ⟨B, cb, rfl, hBr, hbwb⟩; have hKwb := (HK2D.out).below hbwb; obtain ⟨⟨⟨_, _, _, _, _, _, _⟩, ⟨_, _, _, _, _, _, _⟩⟩, _, _, _⟩ := id hKwb)
        | (go_at_call 38; (with_reducible refine (H38.out _).mono ?_); rintro e wc2 ⟨B, cb, rfl, hBr, hbwc2⟩; have hKwc2 := (hKwa).below hbwc2; have hA2 := rowV_below hA hbwc2; obtain ⟨⟨⟨_, _, _, _, _, _, _⟩, ⟨_, _, _, _, _, _, _⟩⟩, _, _, _⟩ := id hKwc2)
        | (go_at_call 37; (with_reducible refine (H37.out _).mono ?_); rintro e wd ⟨A, ca, rfl, hA, hbwd⟩; have hKwd := (hKwb).below hbwd; have hB2r := rowV_below hBr hbwd; obtain ⟨⟨⟨_, _, _, _, _, _, _⟩, ⟨_, _, _, _, _, _, _⟩⟩, _, _, _⟩ := id hKwd)
        | fail)
    all_goals (go_wp2_with fail; go_meet)
    all_goals first
      | exact ⟨hKwc2, A, ca, B, cb, rfl, rfl, hA2, hBr⟩
      | exact ⟨hKwd, A, ca, B, cb, rfl, rfl, hA, hB2r⟩
  case rest =>
    clear c0 c1 c2 c3 c4 c5 c6 d0 d1 d2 d3 d4 d5 d6 hl1 hl2 hB2
    obtain ⟨hK3, A, ca, B, cb, rfl, rfl, hA, hBr⟩ := hcut
    have HA := Lib.hid hA
    have HBr := Lib.hid hBr
    have HK3 := Lib.hid hK3
    clear hA hBr
    go_wp2_with fail
    refine region_cw (A := A) (B := B) (L := L) (by kernel_rfl) (by kernel_rfl) (Cw.below ⟨HK3.out, HA.out, HBr.out⟩ (by go_grown)) ?_
    clear hK3
    go_big_quiet_want
    refine ⟨.agg #[.int .i64 p, .int .i64 c, .int .i64 n, .int .i64 b, .int .i64 r, .int .i64 f, .int .i64 g], fun wq hq => ?_, ?_⟩
    · obtain ⟨⟨⟨_, ⟨q0, q1, q2, q3, q4, q5, q6⟩⟩, _, _, _⟩, _⟩ := hq
      unfold Oper.quietAt
      simp [go_sem, q0, q1, q2, q3, q4, q5, q6, Oper.quietUpon]
    simp only [Act.put, List.setIfInBounds_toArray, List.set_cons_zero, List.set_cons_succ]
    go_big_quiet_on
    iterate 1 (first | go_big_quiet_skip | (go_big_quiet_want; go_big_quiet_op; first | go_big_quiet_on | (refine ⟨_, fun _ _ => rfl, ?_⟩; go_big_quiet_on)))
    go_big_quiet_want
    go_big_quiet_op
    refine ⟨.int .i64 o, fun wq hq => call_cw H39.out hq, ?_⟩
    go_big_quiet_on
    go_big_quiet_want
    refine ⟨.agg #[.int .i64 p, .int .i64 c, .int .i64 n, .int .i64 b, .int .i64 r, .int .i64 f, .int .i64 g], fun wq hq => ?_, ?_⟩
    · obtain ⟨⟨⟨⟨q0, q1, q2, q3, q4, q5, q6⟩, _⟩, _, _, _⟩, _⟩ := hq
      unfold Oper.quietAt
      simp [go_sem, q0, q1, q2, q3, q4, q5, q6, Oper.quietUpon]
    simp only [Act.put, List.setIfInBounds_toArray, List.set_cons_zero, List.set_cons_succ]
    go_big_quiet_on
    iterate 1 (first | go_big_quiet_skip | (go_big_quiet_want; go_big_quiet_op; first | go_big_quiet_on | (refine ⟨_, fun _ _ => rfl, ?_⟩; go_big_quiet_on)))
    go_big_quiet_want
    go_big_quiet_op
    refine ⟨.int .i64 o, fun wq hq => call_cw H40.out hq, ?_⟩
    go_big_quiet_on
    iterate 8 (first | go_big_quiet_skip | (go_big_quiet_want; go_big_quiet_op; first | go_big_quiet_on | (refine ⟨_, fun _ _ => rfl, ?_⟩; go_big_quiet_on)))
    refine wpQuiet_nil ?_
    intro w4 hK4
    have HK4 := Lib.hid hK4
    clear hK4
    go_wp2_with fail
    go_loopw [57] (fun i wr => ∃ k : Nat, k ≤ L.length ∧ i = .int .i64 k ∧ Hid (Cw w w.heap.size w1.heap.size p c n b r f g A B L wr)) (fun i _ => L.length - (intOf i).toNat)
    case atStart => exact ⟨0, Nat.zero_le _, rfl, HK4⟩
    case round =>
      obtain ⟨k, hk, rfl, HW⟩ := hrel
      by_cases hlt' : k < L.length
      · obtain ⟨ga, oa, rfl, hga, cA⟩ := HW.out.2.1.2 k hlt'
        obtain ⟨gb, ob, rfl, hgb, cB⟩ := HW.out.2.2.2 k hlt'
        generalize L.getD k 0 = v at cA cB
        have tv : (v != v) = false := by simp
        have i0 : (0 : Int) ≤ (k : Int) := Int.natCast_nonneg k
        have i1 : (k : Int) < (L.length : Int) := by omega
        go_wp2_with fail
        go_quiet (fail)
        go_wp2
        go_roundw
        case rel => exact ⟨k + 1, by omega, by go_num, HW.out.below (below_dn (Below.refl _ _) _)⟩
        case measure => simp [intOf]; omega
      · obtain rfl : k = L.length := by omega
        have hBz := HW.out.1.2.2.2
        have hKz := HW.out.1
        clear HK4 HK3 HA HBr
        obtain ⟨⟨⟨c0, c1, c2, c3, c4, c5, c6⟩, ⟨d0, d1, d2, d3, d4, d5, d6⟩⟩, hl1, hl2, hBw⟩ := id hKz
        go_wp2_with fail
        refine (HL1.out _).mono ?_
        rintro e wa ⟨AA, ca', rfl, hra, hba⟩
        have HKAAA := Lib.hid (hKz.below hba)
        have HRAAA := Lib.hid hra
        clear c0 c1 c2 c3 c4 c5 c6 d0 d1 d2 d3 d4 d5 d6 hra hba hKz hBw hBz hl1 hl2 HW
        go_wp2_with fail
        go_loopw [14, 90] (fun lo i wr => ∃ (k : Nat) (cc : Bool), k ≤ L1.length ∧ i = .int .i64 k ∧ lo = .bool cc ∧ Hid (cc = anyv L1 o2 k) ∧ Hid (Cz w w.heap.size w1.heap.size p c n b r f g wr) ∧ Hid (RowV wr AA L1.length L1)) (fun _ i _ => L1.length - (intOf i).toNat)
        case atStart => exact ⟨0, false, Nat.zero_le _, rfl, rfl, rfl, HKAAA, HRAAA⟩
        case round =>
          obtain ⟨k, cc, hk, rfl, rfl, HCC, HKR, HRR⟩ := hrel
          by_cases hlt' : k < L1.length
          · obtain ⟨ga, oa, rfl, hga, cA⟩ := HRR.out.2 k hlt'
            have HN := Lib.hid (show anyv L1 o2 (k + 1) = (anyv L1 o2 k || (L1.getD k 0 == o2)) from rfl)
            have i0 : (0 : Int) ≤ (k : Int) := Int.natCast_nonneg k
            have i1 : (k : Int) < (L1.length : Int) := by omega
            obtain ⟨⟨⟨c0, c1, c2, c3, c4, c5, c6⟩, ⟨d0, d1, d2, d3, d4, d5, d6⟩⟩, hl1, hl2, hBw⟩ := id HKR.out
            cases cc with
            | true =>
              have HN2 : Hid (true = anyv L1 o2 (k + 1)) := by refine Lib.hid ?_; rw [HN.out, ← HCC.out]; rfl
              go_wp2_with fail
              go_roundw
              case rel => exact ⟨k + 1, true, by omega, by go_num, rfl, HN2, HKR, HRR⟩
              case measure => simp [intOf]; omega
            | false =>
              generalize hve : L1.getD k 0 = ve at cA HN
              have HN2 : Hid ((ve == o2) = anyv L1 o2 (k + 1)) := by refine Lib.hid ?_; rw [HN.out, ← HCC.out]; rfl
              clear hve HN
              go_wp2_with fail
              refine (H39Y.out _).mono ?_
              rintro e wn ⟨rfl, hbn⟩
              have HKN := Lib.hid (HKR.out.below hbn)
              have HRN := Lib.hid (rowV_below HRR.out hbn)
              clear c0 c1 c2 c3 c4 c5 c6 d0 d1 d2 d3 d4 d5 d6 cA hbn
              go_wp2_with fail
              go_roundw
              case rel => exact ⟨k + 1, _, by omega, by go_num, rfl, HN2, HKN, HRN⟩
              case measure => simp [intOf]; omega
          · obtain rfl : k = L1.length := by omega
            obtain rfl : cc = true := HCC.out.trans HLOW.out
            have hKq := HKR.out
            clear HKR HRR HCC
            obtain ⟨⟨⟨c0, c1, c2, c3, c4, c5, c6⟩, ⟨d0, d1, d2, d3, d4, d5, d6⟩⟩, hl1, hl2, hBw⟩ := id hKq
            go_wp2_with fail
            refine (HL2.out _).mono ?_
            rintro e wb ⟨AB, cb', rfl, hrb, hbb⟩
            have HKAAB := Lib.hid (hKq.below hbb)
            have HRAAB := Lib.hid hrb
            clear c0 c1 c2 c3 c4 c5 c6 d0 d1 d2 d3 d4 d5 d6 hrb hbb hKq hBw hl1 hl2
            go_wp2_with fail
            go_loopw [15, 107] (fun lo i wr => ∃ (k : Nat) (cc : Bool), k ≤ L2.length ∧ i = .int .i64 k ∧ lo = .bool cc ∧ Hid (cc = anyv L2 o k) ∧ Hid (Cz w w.heap.size w1.heap.size p c n b r f g wr) ∧ Hid (RowV wr AB L2.length L2)) (fun _ i _ => L2.length - (intOf i).toNat)
            case atStart => exact ⟨0, false, Nat.zero_le _, rfl, rfl, rfl, HKAAB, HRAAB⟩
            case round =>
              obtain ⟨k, cc, hk, rfl, rfl, HCC, HKR, HRR⟩ := hrel
              by_cases hlt' : k < L2.length
              · obtain ⟨ga, oa, rfl, hga, cA⟩ := HRR.out.2 k hlt'
                have HN := Lib.hid (show anyv L2 o (k + 1) = (anyv L2 o k || (L2.getD k 0 == o)) from rfl)
                have i0 : (0 : Int) ≤ (k : Int) := Int.natCast_nonneg k
                have i1 : (k : Int) < (L2.length : Int) := by omega
                obtain ⟨⟨⟨c0, c1, c2, c3, c4, c5, c6⟩, ⟨d0, d1, d2, d3, d4, d5, d6⟩⟩, hl1, hl2, hBw⟩ := id HKR.out
                cases cc with
                | true =>
                  have HN2 : Hid (true = anyv L2 o (k + 1)) := by refine Lib.hid ?_; rw [HN.out, ← HCC.out]; rfl
                  go_wp2_with fail
                  go_roundw
                  case rel => exact ⟨k + 1, true, by omega, by go_num, rfl, HN2, HKR, HRR⟩
                  case measure => simp [intOf]; omega
                | false =>
                  generalize hve : L2.getD k 0 = ve at cA HN
                  have HN2 : Hid ((ve == o) = anyv L2 o (k + 1)) := by refine Lib.hid ?_; rw [HN.out, ← HCC.out]; rfl
                  clear hve HN
                  go_wp2_with fail
                  refine (H39.out _).mono ?_
                  rintro e wn ⟨rfl, hbn⟩
                  have HKN := Lib.hid (HKR.out.below hbn)
                  have HRN := Lib.hid (rowV_below HRR.out hbn)
                  clear c0 c1 c2 c3 c4 c5 c6 d0 d1 d2 d3 d4 d5 d6 cA hbn
                  go_wp2_with fail
                  go_roundw
                  case rel => exact ⟨k + 1, _, by omega, by go_num, rfl, HN2, HKN, HRN⟩
                  case measure => simp [intOf]; omega
              · obtain rfl : k = L2.length := by omega
                obtain rfl : cc = true := HCC.out.trans HHIGH.out
                have hKq := HKR.out
                clear HKR HRR HCC
                go_wp2_with fail
                refine (awake31 _).mono ?_
                rintro e w5 ⟨rfl, hb5⟩
                go_wp2
                go_ret
                exact ⟨rfl, Below.step hKq.2.2.2 hb5⟩
set_option maxRecDepth 100000 in
set_option maxHeartbeats 4000000 in
theorem crosses_none (p c n b r f g s x : Int) (w : World) (hb : 1 ≤ b ∧ b ≤ 4) (hx : x < 1 ∨ 9999 < x) : Calls Try.prog 38 #[.agg #[.int .i64 p, .int .i64 c, .int .i64 n, .int .i64 b, .int .i64 r, .int .i64 f, .int .i64 g], .int .i64 s, .int .i64 x] w (Row w []) := by
  have HBD := Lib.hid (fun W => rband_none p c n b r f g x W hx)
  have hb1 := hb.1
  have t0 : (0 : Int) < b := by omega
  clear hx hb
  go_enter Try.func38, Try.ntmps38
  go_wp2_with fail
  refine (HBD.out _).mono ?_
  rintro e w1 ⟨rfl, hw1⟩
  have hB1 : Below w.heap.size w w1 := Below.step (by go_grown) hw1
  have hc3 : w1.cell? ⟨w.heap.size, 3, none⟩ = some (.int .i64 b) := (hw1.cell (p := ⟨w.heap.size, 3, none⟩) (by simp)).trans (by simp [go_sem])
  clear hw1
  go_wp2_with fail
  refine wp_loop_rounds 1 ?_
  rw [rounds_succ]
  go_wp2
  go_ret
  exact ⟨_, rfl, World.ownsRow_nil _ _ _ _, hB1⟩
set_option maxRecDepth 100000 in
set_option maxHeartbeats 4000000 in
theorem crosses_other (p c n b r f g s x : Int) (o : Nat) (w : World) (hb : 1 ≤ b ∧ b ≤ 4) (hs0 : s ≠ 0) (hs1 : s ≠ 1) (hx : 1 ≤ x ∧ x ≤ 9999) (ho : (x - 1) * b / 9999 = (o : Int)) : Calls Try.prog 38 #[.agg #[.int .i64 p, .int .i64 c, .int .i64 n, .int .i64 b, .int .i64 r, .int .i64 f, .int .i64 g], .int .i64 s, .int .i64 x] w (Row w []) := by
  have HBD := Lib.hid (fun W => rband_ok p c n b r f g x o W hb hx ho)
  obtain ⟨B, hB0⟩ : ∃ B : Nat, (B : Int) = b := ⟨b.toNat, by omega⟩
  have hb1 := hb.1
  have hb2 := hb.2
  have e0 : (s == 0) = false := by rw [beq_eq_false_iff_ne]; exact hs0
  have e1 : (s == 1) = false := by rw [beq_eq_false_iff_ne]; exact hs1
  have hB1' : (B : Int) ≤ b := by omega
  have hB2' : b ≤ (B : Int) := by omega
  have o0 : 0 ≤ (o : Int) := Int.natCast_nonneg o
  clear ho hx hb hB0 hs0 hs1
  go_enter Try.func38, Try.ntmps38
  go_wp2_with fail
  refine (HBD.out _).mono ?_
  rintro e w1 ⟨rfl, hw1⟩
  have hB1 : Below w.heap.size w w1 := Below.step (by go_grown) hw1
  have hc3 : w1.cell? ⟨w.heap.size, 3, none⟩ = some (.int .i64 b) := (hw1.cell (p := ⟨w.heap.size, 3, none⟩) (by simp)).trans (by simp [go_sem])
  clear hw1
  go_wp2_with fail
  go_loop [8, 9] (fun v i => ∃ k : Nat, k ≤ B ∧ i = .int .i64 (k : Int) ∧ v = .slice none 0 0) (fun _ i => B - (intOf i).toNat)
  case atStart => exact ⟨0, Nat.zero_le _, rfl, rfl⟩
  case round =>
    obtain ⟨k, hk, rfl, rfl⟩ := hrel
    by_cases hlt : k < B
    · have t0 : (k : Int) < b := by omega
      go_wp2
      go_round
      case rel => exact ⟨k + 1, by omega, by go_num, rfl⟩
      case measure => simp [intOf]; omega
    · have t0 : decide ((k : Int) < b) = false := decide_eq_false (by omega)
      go_wp2
      go_ret
      exact ⟨_, rfl, World.ownsRow_nil _ _ _ _, hB1⟩

set_option maxRecDepth 100000 in
set_option maxHeartbeats 4000000 in
theorem cfg_bad (p c n b r f g s x y : Int) (w : World) (hNew : ∀ W, Calls Try.prog 29 #[.agg #[.int .i64 p, .int .i64 c, .int .i64 n, .int .i64 b, .int .i64 r, .int .i64 f, .int .i64 g]] W (RNewBad W)) (hCh : ∀ W, Calls Try.prog 30 #[.agg #[.int .i64 p, .int .i64 c, .int .i64 n, .int .i64 b, .int .i64 r, .int .i64 f, .int .i64 g]] W fun e w' => ∃ i : Nat, e = .returned (.int .i64 (i : Int)) ∧ Below W.heap.size W w') :
    Calls Try.prog 8 #[.agg #[.int .i64 p, .int .i64 c, .int .i64 n, .int .i64 b, .int .i64 r, .int .i64 f, .int .i64 g], .int .i64 s, .int .i64 x, .int .i64 y] w fun e w' => e = .returned (.bool true) ∧ Below w.heap.size w w' := by
  have HNEW := Lib.hid hNew
  have HCH := Lib.hid hCh
  clear hNew hCh
  go_enter Try.func8, Try.ntmps8
  go_wp2_with fail
  refine (HNEW.out _).mono ?_
  rintro e w1 ⟨T, v, rfl, hb1⟩
  have hz1 := hb1.size
  obtain ⟨hc1, hf1⟩ := bcell hb1
  simp only [World.size_alloc] at hz1 hc1 hf1
  have hy1 : w.heap.size < w1.heap.size := by omega
  have hB1 : Below w.heap.size w w1 := Below.step (by go_grown) hb1
  have hs1 := hB1.size
  have hB2 : Below w.heap.size w (w1.alloc (Obj.cells #[.int .i64 0, .int .i64 0, .int .i64 0, .int .i64 0, .int .i64 0, .int .i64 0, .int .i64 0] 67)) := by go_grown
  clear hb1
  go_wp2_with fail
  refine (HCH.out _).mono ?_
  rintro e w2 ⟨i, rfl, hb2⟩
  have hB3 := Below.step hB2 hb2
  have hi : 0 ≤ (i : Int) := Int.natCast_nonneg i
  clear hb2 hc1 hf1
  go_wp2_with fail
  refine (awake31 _).mono ?_
  rintro e w3 ⟨rfl, hb3⟩
  go_wp2
  go_ret
  exact ⟨rfl, Below.step hB3 hb3⟩

theorem low_all : ∀ o : Fin 4, ∀ q : Fin 4, q ≤ o → anyv (ups (o.1 + 1)) (q.1 : Int) (ups (o.1 + 1)).length = true := by decide
theorem high_all : ∀ B : Fin 5, ∀ o : Fin 4, ∀ q : Fin 4, q ≤ o → o.1 < B.1 → anyv (dns ((B.1 : Int) - 1) (B.1 - q.1)) (o.1 : Int) (dns ((B.1 : Int) - 1) (B.1 - q.1)).length = true := by decide
theorem band_nat (x b : Int) (h1 : 1 ≤ b) (h2 : b ≤ 4) (x1 : 1 ≤ x) (x2 : x ≤ 9999) : ∃ o : Nat, (x - 1) * b / 9999 = (o : Int) ∧ (o : Int) < b := by
  have h : 0 ≤ (x - 1) * b / 9999 ∧ (x - 1) * b / 9999 < b := by rcases (show b = 1 ∨ b = 2 ∨ b = 3 ∨ b = 4 by omega) with rfl | rfl | rfl | rfl <;> omega
  exact ⟨((x - 1) * b / 9999).toNat, by omega, by omega⟩
theorem band_mono (a z b : Int) (h1 : 1 ≤ b) (h2 : b ≤ 4) (az : a ≤ z) : (a - 1) * b / 9999 ≤ (z - 1) * b / 9999 := by rcases (show b = 1 ∨ b = 2 ∨ b = 3 ∨ b = 4 by omega) with rfl | rfl | rfl | rfl <;> omega
theorem band_c (p c n b r f g x : Int) (o : Nat) (hb : 1 ≤ b ∧ b ≤ 4) (hx : 1 ≤ x ∧ x ≤ 9999) (ho : (x - 1) * b / 9999 = (o : Int)) (W : World) : Calls Try.prog 39 #[.agg #[.int .i64 p, .int .i64 c, .int .i64 n, .int .i64 b, .int .i64 r, .int .i64 f, .int .i64 g], .int .i64 x] W fun e w' => e = .returned (.int .i64 (o : Int)) ∧ Below W.heap.size W w' := by
  have h := band_ok p c n b r f g x hb.1 hb.2 hx.1 hx.2 W
  rw [ho] at h
  exact h
theorem walk (a0_0 a0_1 a0_2 a0_3 a0_4 a0_5 a0_6 a1 a2 a3 : Int) (w : World) (w0_0 : (Lit.int .i64 a0_0).wf = true) (w0_1 : (Lit.int .i64 a0_1).wf = true) (w0_2 : (Lit.int .i64 a0_2).wf = true) (w0_3 : (Lit.int .i64 a0_3).wf = true) (w0_4 : (Lit.int .i64 a0_4).wf = true) (w0_5 : (Lit.int .i64 a0_5).wf = true) (w0_6 : (Lit.int .i64 a0_6).wf = true) (w1 : (Lit.int .i64 a1).wf = true) (w2 : (Lit.int .i64 a2).wf = true) (w3 : (Lit.int .i64 a3).wf = true) :
    Calls Try.prog 8 #[.agg #[.int .i64 a0_0, .int .i64 a0_1, .int .i64 a0_2, .int .i64 a0_3, .int .i64 a0_4, .int .i64 a0_5, .int .i64 a0_6], .int .i64 a1, .int .i64 a2, .int .i64 a3] w fun e w' => e = .returned (.bool true) ∧ Below w.heap.size w w' := by
  by_cases hk : (1 ≤ a0_0 ∧ a0_0 ≤ 6) ∧ (1 ≤ a0_1 ∧ a0_1 ≤ 4) ∧ (1 ≤ a0_2 ∧ a0_2 ≤ 3) ∧ (1 ≤ a0_3 ∧ a0_3 ≤ 4) ∧ (0 ≤ a0_4 ∧ a0_4 ≤ 4) ∧ (1 ≤ a0_5 ∧ a0_5 ≤ 4) ∧ (1 ≤ a0_6 ∧ a0_6 ≤ 15)
  · obtain ⟨hp, hc, hn, hb, hr, hf, hg⟩ := hk
    have hNew := fun W => rnew_ok a0_0 a0_1 a0_2 a0_3 a0_4 a0_5 a0_6 W hp hc hn hb hr hf hg
    have hCh := fun W => check_ok a0_0 a0_1 a0_2 a0_3 a0_4 a0_5 a0_6 W hp hc hn hb hr hf hg
    by_cases hx : a2 < 1 ∨ 9999 < a2
    · exact mainA _ _ _ _ _ _ _ _ _ _ (-1) [] w hNew hCh (fun W => crossing_none _ _ _ _ _ _ _ _ _ W hx) (fun W => crosses_none _ _ _ _ _ _ _ _ _ W hb hx) (fun W => band_none _ _ _ _ _ _ _ _ W hx) (fun W => rband_none _ _ _ _ _ _ _ _ W hx) (by decide) (by omega)
    have hx' : 1 ≤ a2 ∧ a2 ≤ 9999 := by omega
    obtain ⟨o, ho, hob⟩ := band_nat a2 a0_3 hb.1 hb.2 hx'.1 hx'.2
    have h39 := fun W => band_c a0_0 a0_1 a0_2 a0_3 a0_4 a0_5 a0_6 a2 o hb hx' ho W
    have h40 := fun W => rband_ok a0_0 a0_1 a0_2 a0_3 a0_4 a0_5 a0_6 a2 o W hb hx' ho
    have hL : ∃ L : List Int, L.length ≤ 100 ∧ (∀ W, Calls Try.prog 37 #[.agg #[.int .i64 a0_0, .int .i64 a0_1, .int .i64 a0_2, .int .i64 a0_3, .int .i64 a0_4, .int .i64 a0_5, .int .i64 a0_6], .int .i64 a1, .int .i64 a2] W (Row W L)) ∧ (∀ W, Calls Try.prog 38 #[.agg #[.int .i64 a0_0, .int .i64 a0_1, .int .i64 a0_2, .int .i64 a0_3, .int .i64 a0_4, .int .i64 a0_5, .int .i64 a0_6], .int .i64 a1, .int .i64 a2] W (Row W L)) := by
      by_cases s0 : a1 = 0
      · subst s0
        exact ⟨ups (o + 1), by rw [ups_len]; omega, fun W => crossing_buy _ _ _ _ _ _ _ _ o W hb hx' ho (by omega), fun W => crosses_buy _ _ _ _ _ _ _ _ o (o + 1) W hb hx' ho (by omega)⟩
      by_cases s1 : a1 = 1
      · subst s1
        exact ⟨dns (a0_3 - 1) (a0_3.toNat - o), by rw [dns_len]; omega, fun W => crossing_sell _ _ _ _ _ _ _ _ o (a0_3.toNat - o) W hb hx' ho (by omega), fun W => crosses_sell _ _ _ _ _ _ _ _ o (a0_3.toNat - o) W hb hx' ho (by omega)⟩
      · exact ⟨[], by decide, fun W => crossing_other _ _ _ _ _ _ _ _ _ W hb s0 s1 hx', fun W => crosses_other _ _ _ _ _ _ _ _ _ o W hb s0 s1 hx' ho⟩
    obtain ⟨L, hLl, h37, h38⟩ := hL
    by_cases hy : a3 < 1 ∨ a2 < a3
    · exact mainA _ _ _ _ _ _ _ _ _ _ _ L w hNew hCh h37 h38 h39 h40 hLl (by omega)
    have hy' : 1 ≤ a3 ∧ a3 ≤ 9999 := by omega
    obtain ⟨q, hq, hqb⟩ := band_nat a3 a0_3 hb.1 hb.2 hy'.1 hy'.2
    have hqo : (q : Int) ≤ (o : Int) := by rw [← hq, ← ho]; exact band_mono _ _ _ hb.1 hb.2 (by omega)
    have e1 := low_all ⟨o, by omega⟩ ⟨q, by omega⟩ (by show q ≤ o; omega)
    have e2 := high_all ⟨a0_3.toNat, by omega⟩ ⟨o, by omega⟩ ⟨q, by omega⟩ (by show q ≤ o; omega) (by show o < a0_3.toNat; omega)
    dsimp only at e1 e2
    rw [show ((a0_3.toNat : Nat) : Int) = a0_3 by omega] at e2
    exact mainB _ _ _ _ _ _ _ _ _ _ _ (q : Int) L (ups (o + 1)) (dns (a0_3 - 1) (a0_3.toNat - q)) w hNew hCh h37 h38 h39 h40 hLl hx'.1 hx'.2 (by omega) (by omega) (by rw [ups_len]; omega) (by rw [dns_len]; omega)
      (fun W => crossing_buy _ _ _ _ _ _ _ _ o W hb hx' ho (by omega)) (fun W => crossing_sell _ _ _ _ _ _ _ _ q (a0_3.toNat - q) W hb hy' hq (by omega)) (fun W => band_c _ _ _ _ _ _ _ _ q hb hy' hq W) e1 e2
  · exact cfg_bad _ _ _ _ _ _ _ _ _ _ w (fun W => rnew_bad _ _ _ _ _ _ _ W hk) (fun W => check_bad _ _ _ _ _ _ _ W hk)
end Go.Proofs.Ytcbhbdadahlbfaa.rulesBands
